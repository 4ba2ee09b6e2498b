/- Plain functions on lists of bytes for forms (cut at a byte, pieces, pairs) and what follows of them; no program stands in it. No condition. -/
import Derived.Test.YtfeaonbeklmfgaaGreatDoorPure
import Derived.Lib.Bytealg
import Derived.Lib.IndexLaws
namespace Go.Proofs.YtfeaonbeklmfgaaGreatDoor
set_option maxRecDepth 8000
namespace Pct

abbrev Bytes := List UInt8
abbrev PairL := Bytes × Bytes

def cutAt (c : UInt8) : Bytes → Bytes × Bytes × Bool
  | [] => ([], [], false)
  | x :: r => if x = c then ([], r, true) else (x :: (cutAt c r).1, (cutAt c r).2.1, (cutAt c r).2.2)

theorem cutAt_hit (c : UInt8) (r : Bytes) : cutAt c (c :: r) = ([], r, true) := by rw [cutAt, if_pos rfl]
theorem cutAt_other (c x : UInt8) (r : Bytes) (h : x ≠ c) : cutAt c (x :: r) = (x :: (cutAt c r).1, (cutAt c r).2.1, (cutAt c r).2.2) := by rw [cutAt, if_neg h]

theorem cutAt_miss : ∀ (l : Bytes) (c : UInt8), Lib.indexByte l c = -1 → cutAt c l = (l, [], false)
  | [], _, _ => rfl
  | x :: r, c, h => by
    unfold Lib.indexByte at h
    by_cases hx : x = c
    · simp [hx] at h
    · have hb : (x == c) = false := by simpa using hx
      rw [hb] at h
      have hr : Lib.indexByte r c = -1 := by
        have := Lib.indexByte_ge r c
        by_cases hm : Lib.indexByte r c = -1
        · exact hm
        · have hm' : (Lib.indexByte r c == -1) = false := by simpa using hm
          simp [hm'] at h
          omega
      rw [cutAt_other c x r hx, cutAt_miss r c hr]

theorem cutAt_found : ∀ (l : Bytes) (c : UInt8) (i : Nat), Lib.indexByte l c = (i : Int) → i < l.length ∧ cutAt c l = (l.take i, l.drop (i + 1), true)
  | [], _, i, h => by simp [Lib.indexByte] at h
  | x :: r, c, i, h => by
    unfold Lib.indexByte at h
    by_cases hx : x = c
    · simp [hx] at h
      have hi : i = 0 := by omega
      subst hi
      rw [hx, cutAt_hit]
      simp
    · have hb : (x == c) = false := by simpa using hx
      rw [hb] at h
      by_cases hm : Lib.indexByte r c = -1
      · simp [hm] at h
      · have hm' : (Lib.indexByte r c == -1) = false := by simpa using hm
        simp [hm'] at h
        have hge := Lib.indexByte_ge r c
        obtain ⟨j, rfl⟩ : ∃ j, i = j + 1 := ⟨i - 1, by omega⟩
        have hj : Lib.indexByte r c = (j : Int) := by omega
        obtain ⟨h1, h2⟩ := cutAt_found r c j hj
        refine ⟨by simp; omega, ?_⟩
        rw [cutAt_other c x r hx, h2]
        simp

theorem indexByte_cases (l : Bytes) (c : UInt8) : Lib.indexByte l c = -1 ∨ ∃ i : Nat, Lib.indexByte l c = (i : Int) := by
  have := Lib.indexByte_ge l c
  by_cases h : Lib.indexByte l c = -1
  · exact .inl h
  · exact .inr ⟨(Lib.indexByte l c).toNat, by omega⟩

/-- The pieces of a text that is cut at each c. -/
def split (c : UInt8) : Bytes → List Bytes
  | [] => [[]]
  | x :: r =>
    if x = c then [] :: split c r
    else match split c r with
      | p :: ps => (x :: p) :: ps
      | [] => [[x]]

theorem split_ne (c : UInt8) : ∀ l : Bytes, split c l ≠ []
  | [] => by simp [split]
  | x :: r => by
    unfold split
    split
    · simp
    · split <;> simp
theorem split_hit (c : UInt8) (r : Bytes) : split c (c :: r) = [] :: split c r := by rw [split, if_pos rfl]
theorem split_other (c x : UInt8) (r p : Bytes) (ps : List Bytes) (h : x ≠ c) (hs : split c r = p :: ps) : split c (x :: r) = (x :: p) :: ps := by rw [split, if_neg h, hs]

/-- Cut once, and on. -/
theorem split_cut (c : UInt8) : ∀ l : Bytes, split c l = (cutAt c l).1 :: (if (cutAt c l).2.2 = true then split c (cutAt c l).2.1 else [])
  | [] => by simp [split, cutAt]
  | x :: r => by
    by_cases hx : x = c
    · rw [hx, split_hit, cutAt_hit]
      simp
    · rw [cutAt_other c x r hx]
      have ih := split_cut c r
      rw [split_other c x r _ _ hx ih]

theorem split_append (c : UInt8) (b : Bytes) : ∀ a : Bytes, split c (a ++ c :: b) = split c a ++ split c b
  | [] => by rw [List.nil_append, split_hit]; rfl
  | x :: r => by
    have ih := split_append c b r
    by_cases hx : x = c
    · rw [hx, List.cons_append, split_hit, split_hit, ih]
      rfl
    · obtain ⟨p, ps, hp⟩ : ∃ p ps, split c r = p :: ps := by
        cases h : split c r with
        | nil => exact absurd h (split_ne c r)
        | cons p ps => exact ⟨p, ps, rfl⟩
      rw [hp] at ih
      rw [List.cons_append, split_other c x _ p (ps ++ split c b) hx ih, split_other c x r p ps hx hp]
      rfl

theorem cutAt_none (c : UInt8) : ∀ l : Bytes, (∀ x ∈ l, x ≠ c) → cutAt c l = (l, [], false)
  | [], _ => rfl
  | x :: r, h => by
    rw [cutAt_other c x r (h x (by simp)), cutAt_none c r (fun y hy => h y (by simp [hy]))]
theorem cutAt_first (c : UInt8) (b : Bytes) : ∀ l : Bytes, (∀ x ∈ l, x ≠ c) → cutAt c (l ++ c :: b) = (l, b, true)
  | [], _ => by rw [List.nil_append, cutAt_hit]
  | x :: r, h => by
    rw [List.cons_append, cutAt_other c x _ (h x (by simp)), cutAt_first c b r (fun y hy => h y (by simp [hy]))]
theorem split_none (c : UInt8) (l : Bytes) (h : ∀ x ∈ l, x ≠ c) : split c l = [l] := by
  rw [split_cut, cutAt_none c l h]
  simp

/-- A piece's pair. -/
def pairOf (p : Bytes) : Option PairL :=
  match dec true (cutAt 61 p).1, dec true (cutAt 61 p).2.1 with
  | some x, some y => some (x, y)
  | _, _ => none

/-- The pieces, gone through: 5: too many; 11: a percent that is none. -/
def formGo (acc : List PairL) : List Bytes → Except Nat (List PairL)
  | [] => .ok acc
  | p :: ps =>
    if p = [] then formGo acc ps
    else if acc.length = 32 then .error 5
    else match pairOf p with
      | none => .error 11
      | some q => formGo (acc ++ [q]) ps

def form (l : Bytes) : Except Nat (List PairL) := formGo [] (split 38 l)

theorem formGo_empty (acc : List PairL) (ps : List Bytes) : formGo acc ([] :: ps) = formGo acc ps := by rw [formGo, if_pos rfl]
theorem formGo_full (acc : List PairL) (p : Bytes) (ps : List Bytes) (hp : p ≠ []) (h : acc.length = 32) : formGo acc (p :: ps) = .error 5 := by rw [formGo, if_neg hp, if_pos h]
theorem formGo_bad (acc : List PairL) (p : Bytes) (ps : List Bytes) (hp : p ≠ []) (h : acc.length ≠ 32) (hq : pairOf p = none) : formGo acc (p :: ps) = .error 11 := by rw [formGo, if_neg hp, if_neg h, hq]
theorem formGo_pair (acc : List PairL) (p : Bytes) (ps : List Bytes) (q : PairL) (hp : p ≠ []) (h : acc.length ≠ 32) (hq : pairOf p = some q) : formGo acc (p :: ps) = formGo (acc ++ [q]) ps := by rw [formGo, if_neg hp, if_neg h, hq]

/-- A pair as it is written. -/
def wr1 (q : PairL) : Bytes := enc q.1 ++ 61 :: enc q.2
def write : List PairL → Bytes
  | [] => []
  | [q] => wr1 q
  | q :: r => wr1 q ++ 38 :: write r

theorem enc_no (l : Bytes) : ∀ x ∈ enc l, x ≠ 38 ∧ x ≠ 61 := by
  intro x hx
  have := List.all_eq_true.1 (enc_ok l) x hx
  unfold okB at this
  rcases Bool.or_eq_true_iff.1 this with h | h
  · have : x = 37 := by simpa using h
    subst this
    decide
  · have := plain_ne x h
    exact ⟨this.2.2.1, this.2.2.2⟩
theorem wr1_no (q : PairL) : ∀ x ∈ wr1 q, x ≠ 38 := by
  intro x hx
  unfold wr1 at hx
  rw [List.mem_append, List.mem_cons] at hx
  rcases hx with h | rfl | h
  · exact (enc_no _ x h).1
  · decide
  · exact (enc_no _ x h).1
theorem wr1_ne (q : PairL) : wr1 q ≠ [] := by unfold wr1; simp
theorem pairOf_wr1 (q : PairL) : pairOf (wr1 q) = some q := by
  unfold pairOf wr1
  rw [cutAt_first 61 _ _ (fun x hx => (enc_no _ x hx).2)]
  simp only [dec_enc]

theorem split_write : ∀ l : List PairL, l ≠ [] → split 38 (write l) = l.map wr1
  | [], h => absurd rfl h
  | [q], _ => by rw [write, split_none 38 _ (wr1_no q)]; rfl
  | q :: q' :: r, _ => by
    have ih := split_write (q' :: r) (by simp)
    rw [write, split_append, split_none 38 _ (wr1_no q), ih]
    · rfl
    · simp

theorem formGo_write : ∀ (l acc : List PairL), acc.length + l.length ≤ 32 → formGo acc (l.map wr1) = .ok (acc ++ l)
  | [], acc, _ => by simp [formGo]
  | q :: r, acc, h => by
    simp only [List.length_cons] at h
    rw [List.map_cons, formGo_pair acc (wr1 q) _ q (wr1_ne q) (by omega) (pairOf_wr1 q), formGo_write r (acc ++ [q]) (by simp; omega)]
    simp
theorem formGo_over : ∀ (l acc : List PairL), acc.length ≤ 32 → 32 < acc.length + l.length → formGo acc (l.map wr1) = .error 5
  | [], acc, h1, h2 => by simp at h2; omega
  | q :: r, acc, h1, h2 => by
    simp only [List.length_cons] at h2
    by_cases h : acc.length = 32
    · rw [List.map_cons, formGo_full acc _ _ (wr1_ne q) h]
    · rw [List.map_cons, formGo_pair acc (wr1 q) _ q (wr1_ne q) h (pairOf_wr1 q), formGo_over r (acc ++ [q]) (by simp; omega) (by simp; omega)]

theorem form_nil : form [] = .ok [] := rfl
/-- WHAT IS WRITTEN AS A FORM IS READ. -/
theorem form_write (l : List PairL) (h : l.length ≤ 32) : form (write l) = .ok l := by
  by_cases h0 : l = []
  · subst h0; rfl
  · unfold form
    rw [split_write l h0, formGo_write l [] (by simpa using h)]
    simp
theorem form_over (l : List PairL) (h : 32 < l.length) : form (write l) = .error 5 := by
  unfold form
  rw [split_write l (by intro h0; simp [h0] at h), formGo_over l [] (by simp) (by simpa using h)]

/-- Pieces behind pieces. -/
theorem formGo_append : ∀ (a b : List Bytes) (acc x : List PairL), formGo acc a = .ok x → formGo acc (a ++ b) = formGo x b
  | [], b, acc, x, h => by
    simp [formGo] at h
    rw [h]
    rfl
  | p :: a, b, acc, x, h => by
    by_cases hp : p = []
    · subst hp
      rw [formGo_empty] at h
      rw [List.cons_append, formGo_empty]
      exact formGo_append a b acc x h
    · by_cases hl : acc.length = 32
      · rw [formGo_full acc p a hp hl] at h
        cases h
      · cases hq : pairOf p with
        | none => rw [formGo_bad acc p a hp hl hq] at h; cases h
        | some q =>
          rw [formGo_pair acc p a q hp hl hq] at h
          rw [List.cons_append, formGo_pair acc p _ q hp hl hq]
          exact formGo_append a b _ x h
theorem formGo_len : ∀ (a : List Bytes) (acc x : List PairL), acc.length ≤ 32 → formGo acc a = .ok x → x.length ≤ 32
  | [], acc, x, hl, h => by
    simp [formGo] at h
    rw [← h]
    exact hl
  | p :: a, acc, x, hl, h => by
    by_cases hp : p = []
    · subst hp
      rw [formGo_empty] at h
      exact formGo_len a acc x hl h
    · by_cases hl' : acc.length = 32
      · rw [formGo_full acc p a hp hl'] at h
        cases h
      · cases hq : pairOf p with
        | none => rw [formGo_bad acc p a hp hl' hq] at h; cases h
        | some q =>
          rw [formGo_pair acc p a q hp hl' hq] at h
          exact formGo_len a _ x (by simp; omega) h
theorem formGo_grows : ∀ (a : List Bytes) (acc x : List PairL), formGo acc a = .ok x → ∃ y, x = acc ++ y
  | [], acc, x, h => by
    simp [formGo] at h
    exact ⟨[], by simp [h]⟩
  | p :: a, acc, x, h => by
    by_cases hp : p = []
    · subst hp
      rw [formGo_empty] at h
      exact formGo_grows a acc x h
    · by_cases hl' : acc.length = 32
      · rw [formGo_full acc p a hp hl'] at h
        cases h
      · cases hq : pairOf p with
        | none => rw [formGo_bad acc p a hp hl' hq] at h; cases h
        | some q =>
          rw [formGo_pair acc p a q hp hl' hq] at h
          obtain ⟨y, rfl⟩ := formGo_grows a _ _ h
          exact ⟨q :: y, by simp⟩
/-- What is read from the empty list of pairs is read behind any other, if there are not too many. -/
theorem formGo_behind : ∀ (b : List Bytes) (acc acc' y : List PairL), formGo acc b = .ok (acc ++ y) → acc'.length + y.length ≤ 32 → formGo acc' b = .ok (acc' ++ y)
  | [], acc, acc', y, h, _ => by
    simp [formGo] at h
    subst h
    simp [formGo]
  | p :: b, acc, acc', y, h, hl => by
    by_cases hp : p = []
    · subst hp
      rw [formGo_empty] at h ⊢
      exact formGo_behind b acc acc' y h hl
    · by_cases hl' : acc.length = 32
      · rw [formGo_full acc p b hp hl'] at h
        cases h
      · cases hq : pairOf p with
        | none => rw [formGo_bad acc p b hp hl' hq] at h; cases h
        | some q =>
          rw [formGo_pair acc p b q hp hl' hq] at h
          obtain ⟨y', hy'⟩ := formGo_grows b _ _ h
          have hy : y = q :: y' := by
            have := List.append_cancel_left (as := acc) (bs := y) (cs := q :: y') (by simpa using hy')
            exact this
          subst hy
          simp only [List.length_cons] at hl
          rw [formGo_pair acc' p b q hp (by omega) hq]
          have := formGo_behind b (acc ++ [q]) (acc' ++ [q]) y' (by simpa using h) (by simp; omega)
          simpa using this
theorem formGo_much : ∀ (b : List Bytes) (acc acc' y : List PairL), formGo acc b = .ok (acc ++ y) → acc'.length ≤ 32 → 32 < acc'.length + y.length → formGo acc' b = .error 5
  | [], acc, acc', y, h, h1, h2 => by
    simp [formGo] at h
    subst h
    simp at h2
    omega
  | p :: b, acc, acc', y, h, h1, h2 => by
    by_cases hp : p = []
    · subst hp
      rw [formGo_empty] at h ⊢
      exact formGo_much b acc acc' y h h1 h2
    · by_cases hl' : acc.length = 32
      · rw [formGo_full acc p b hp hl'] at h
        cases h
      · cases hq : pairOf p with
        | none => rw [formGo_bad acc p b hp hl' hq] at h; cases h
        | some q =>
          rw [formGo_pair acc p b q hp hl' hq] at h
          obtain ⟨y', hy'⟩ := formGo_grows b _ _ h
          have hy : y = q :: y' := by
            have := List.append_cancel_left (as := acc) (bs := y) (cs := q :: y') (by simpa using hy')
            exact this
          subst hy
          simp only [List.length_cons] at h2
          by_cases hf : acc'.length = 32
          · rw [formGo_full acc' p b hp hf]
          · rw [formGo_pair acc' p b q hp hf hq]
            exact formGo_much b (acc ++ [q]) (acc' ++ [q]) y' (by simpa using h) (by simp; omega) (by simp; omega)

/-- FORMS SIDE BY SIDE. -/
theorem split_gap (t : Bytes) : ∀ n : Nat, split 38 (List.replicate n 38 ++ t) = List.replicate n [] ++ split 38 t
  | 0 => rfl
  | n + 1 => by rw [List.replicate_succ, List.cons_append, split_hit, split_gap t n]; rfl
theorem formGo_gap (acc : List PairL) (b : List Bytes) : ∀ n : Nat, formGo acc (List.replicate n [] ++ b) = formGo acc b
  | 0 => rfl
  | n + 1 => by rw [List.replicate_succ, List.cons_append, formGo_empty, formGo_gap acc b n]
theorem form_join {s t : Bytes} {x y : List PairL} (n : Nat) (hs : form s = .ok x) (ht : form t = .ok y) :
    form (s ++ (List.replicate (n + 1) 38 ++ t)) = if 32 < x.length + y.length then .error 5 else .ok (x ++ y) := by
  unfold form at hs ht ⊢
  rw [List.replicate_succ, List.cons_append, split_append, split_gap, formGo_append _ _ _ _ hs, formGo_gap]
  have hx := formGo_len _ _ _ (by simp) hs
  split
  · rename_i h
    exact formGo_much _ [] x y (by simpa using ht) hx h
  · rename_i h
    exact formGo_behind _ [] x y (by simpa using ht) (by omega)

/-- Get. -/
def getV (name : Bytes) : List PairL → Bytes
  | [] => []
  | q :: r => if q.1 = name then q.2 else getV name r
def getN (name : Bytes) (l : List PairL) : Nat := (l.filter fun q => q.1 = name).length

end Pct
end Go.Proofs.YtfeaonbeklmfgaaGreatDoor
