/- Elements as a tree, how one is written, what is guessed of a text, and that what is written is guessed; no program stands in it. No condition. -/
import Derived.Test.YtpleaopefngafaaDoorXmPure
import Derived.Lib.IndexMore
import Derived.Lib.Strings
namespace Go.Proofs.YtpleaopefngafaaDoor
set_option maxRecDepth 8000
namespace Xm

/-! ### Cutting -/
theorem cut_first {a sep b : Bytes} (h : ∀ k, k < a.length → Lib.occAt (a ++ sep ++ b) sep k = false) : Lib.cut (a ++ (sep ++ b)) sep = (a, b, true) := by
  have hi : Lib.index (a ++ (sep ++ b)) sep = (a.length : Int) := Lib.index_first (by simp) (by simp [Lib.occAt]) (fun j hj => by rw [← List.append_assoc]; exact h j hj)
  unfold Lib.cut
  rw [hi]
  rw [if_pos (by simp)]
  simp
theorem cut_none {a sep : Bytes} (h : Lib.index a sep = -1) : Lib.cut a sep = (a, [], false) := by
  unfold Lib.cut
  rw [h]
  rfl
theorem occ_head {l w : Bytes} {c : UInt8} {k : Nat} (h : l[k]? ≠ some c) : Lib.occAt l (c :: w) k = false := by
  unfold Lib.occAt
  cases hd : l.drop k with
  | nil => rfl
  | cons x r =>
    have hx : l[k]? = some x := by
      have := List.getElem?_drop (xs := l) (i := k) (j := 0)
      rw [hd] at this
      simpa using this.symm
    have hne : x ≠ c := fun e => h (by rw [hx, e])
    simp [List.isPrefixOf, Ne.symm hne]
theorem cut_at (c : UInt8) (w a b : Bytes) (h : ∀ x ∈ a, x ≠ c) : Lib.cut (a ++ ((c :: w) ++ b)) (c :: w) = (a, b, true) := by
  refine cut_first fun k hk => occ_head ?_
  rw [List.append_assoc, List.getElem?_append_left hk, List.getElem?_eq_getElem hk]
  intro e
  exact h _ (List.getElem_mem hk) (Option.some.inj e)
theorem cut_out (c : UInt8) (w a : Bytes) (h : ∀ x ∈ a, x ≠ c) : Lib.cut a (c :: w) = (a, [], false) := by
  refine cut_none ?_
  induction a with
  | nil => simp [Lib.index]
  | cons x r ih =>
    rw [index_step x r (c :: w) (by simp [List.isPrefixOf, Ne.symm (h x (by simp))]), ih (fun y hy => h y (by simp [hy]))]
    rfl

/-! ### Elements -/
abbrev PairL := Bytes × Bytes
inductive N where
  | mk (name : Bytes) (attrs : List PairL) (text : Bytes) (kids : List N)
def N.name : N → Bytes | .mk nm _ _ _ => nm
def N.attrs : N → List PairL | .mk _ as _ _ => as
def N.text : N → Bytes | .mk _ _ tx _ => tx
def N.kids : N → List N | .mk _ _ _ ks => ks
def zero : N := .mk [] [] [] []
mutual
def size : N → Nat
  | .mk _ _ _ ks => sizeL ks + 1
def sizeL : List N → Nat
  | [] => 0
  | k :: ks => size k + sizeL ks
end
/- few: how many of a number are left, if so many may lie in one another. -/
mutual
def few : N → Nat → Nat → Option Nat
  | .mk _ _ _ ks, d, r => if d = 0 ∨ r = 0 then none else fewL ks (d - 1) (r - 1)
def fewL : List N → Nat → Nat → Option Nat
  | [], _, r => some r
  | k :: ks, d, r => match few k d r with
    | none => none
    | some r' => fewL ks d r'
end
mutual
theorem few_size : ∀ (n : N) (d r r' : Nat), few n d r = some r' → r' + size n = r
  | .mk _ _ _ ks, d, r, r', h => by
    unfold few at h
    unfold size
    by_cases hz : d = 0 ∨ r = 0
    · rw [if_pos hz] at h; cases h
    · rw [if_neg hz] at h
      have := fewL_size ks _ _ _ h
      omega
theorem fewL_size : ∀ (ks : List N) (d r r' : Nat), fewL ks d r = some r' → r' + sizeL ks = r
  | [], d, r, r', h => by
    unfold fewL at h
    unfold sizeL
    cases h
    omega
  | k :: ks, d, r, r', h => by
    unfold fewL at h
    unfold sizeL
    cases hk : few k d r with
    | none => rw [hk] at h; cases h
    | some q =>
      rw [hk] at h
      have h1 := few_size k d r q hk
      have h2 := fewL_size ks d q r' h
      omega
end

/-! ### What can be -/
def letterB (c : UInt8) : Bool := decide (97 ≤ c.toNat ∧ c.toNat ≤ 122 ∨ 65 ≤ c.toNat ∧ c.toNat ≤ 90)
def nameByte (c : UInt8) : Bool := letterB c || decide (48 ≤ c.toNat ∧ c.toNat ≤ 57) || c == 58 || c == 45 || c == 95
def nameB : Bytes → Bool
  | [] => false
  | c :: l => letterB c && l.all nameByte
def shownByte (c : UInt8) : Bool := !(decide (c.toNat < 32) && c != 9 && c != 10) && c != 127
def shownB (l : Bytes) : Bool := l.all shownByte
def attrB (p : PairL) : Bool := nameB p.1 && shownB p.2
def distinct : List Bytes → Bool
  | [] => true
  | a :: l => !l.contains a && distinct l
mutual
def own : N → Bool
  | .mk nm as tx ks => nameB nm && as.all attrB && distinct (as.map (·.1)) && shownB tx && (tx.isEmpty || ks.isEmpty) && ownL ks
def ownL : List N → Bool
  | [] => true
  | k :: ks => own k && ownL ks
end
def right (n : N) : Bool := (few n 8 200).isSome && own n

/-! ### Writing -/
def attrS (p : PairL) : Bytes := 32 :: (p.1 ++ ([61, 34] ++ (escape p.2 ++ [34])))
def attrsS (as : List PairL) : Bytes := as.flatMap attrS
mutual
def wr : N → Bytes
  | .mk nm as tx ks => 60 :: (nm ++ attrsS as) ++ (62 :: (escape tx ++ (wrL ks ++ (60 :: 47 :: (nm ++ [62])))))
def wrL : List N → Bytes
  | [] => []
  | k :: ks => wr k ++ wrL ks
end
def write (n : N) : Option Bytes := if right n then some (wr n) else none

/-! ### Guessing -/
def cutM (s : Bytes) : Bytes × Bytes × Bytes := ((Lib.cut s [62]).1, (Lib.cut s [62]).2.1.takeWhile (· != 60), (Lib.cut s [62]).2.1.dropWhile (· != 60))
def attrsG : Nat → Bytes → List PairL
  | 0, _ => []
  | f + 1, s => if s = [] then [] else
    ((Lib.cut s [61, 34]).1, (unescape (Lib.cut (Lib.cut s [61, 34]).2.1 [34]).1).getD []) :: attrsG f (Lib.trimPrefix (Lib.cut (Lib.cut s [61, 34]).2.1 [34]).2.1 [32])
def elementG (m t : Bytes) : N := .mk (Lib.cut m [32]).1 (attrsG (Lib.cut m [32]).2.1.length (Lib.cut m [32]).2.1) ((unescape t).getD []) []
def addKid : N → N → N
  | .mk nm as tx ks, k => .mk nm as tx (ks ++ [k])
/-- The open elements, the last one first. -/
def guess : Nat → List N → Bytes → N
  | 0, _, _ => zero
  | f + 1, rs, s =>
    if Lib.hasPrefix (cutM s).1 [60] = false then zero
    else if Lib.hasPrefix (cutM s).1 [60, 47] = false then guess f (elementG ((cutM s).1.drop 1) (cutM s).2.1 :: rs) (cutM s).2.2
    else match rs with
      | [] => zero
      | [t] => t
      | t :: p :: r => guess f (addKid p t :: r) (cutM s).2.2

theorem name_byte {l : Bytes} (h : nameB l = true) : ∀ x ∈ l, nameByte x = true := by
  cases l with
  | nil => intro x hx; cases hx
  | cons c l =>
    unfold nameB at h
    rw [Bool.and_eq_true] at h
    intro x hx
    rcases List.mem_cons.1 hx with rfl | hx
    · unfold nameByte; rw [h.1]; rfl
    · exact List.all_eq_true.1 h.2 x hx
theorem nb_all : ∀ n : Nat, n < 256 → (!nameByte (UInt8.ofNat n) || ((UInt8.ofNat n) != 32 && (UInt8.ofNat n) != 61 && (UInt8.ofNat n) != 62 && (UInt8.ofNat n) != 60 && (UInt8.ofNat n) != 47)) = true := by decide +kernel
theorem nb_ne {x : UInt8} (h : nameByte x = true) : x ≠ 32 ∧ x ≠ 61 ∧ x ≠ 62 ∧ x ≠ 60 ∧ x ≠ 47 := by
  have := byte_all (P := fun c => !nameByte c || (c != 32 && c != 61 && c != 62 && c != 60 && c != 47)) nb_all x
  simp only [h, Bool.not_true, Bool.false_or, Bool.and_eq_true, bne_iff_ne, ne_eq] at this
  exact ⟨this.1.1.1.1, this.1.1.1.2, this.1.1.2, this.1.2, this.2⟩
theorem esc_all : ∀ n : Nat, n < 256 → (esc1 (UInt8.ofNat n)).all (fun x => x != 60 && x != 62 && x != 34) = true := by decide +kernel
theorem esc_ne {l : Bytes} : ∀ x ∈ escape l, x ≠ 60 ∧ x ≠ 62 ∧ x ≠ 34 := by
  intro x hx
  unfold escape at hx
  obtain ⟨c, _, hc⟩ := List.mem_flatMap.1 hx
  have := byte_all (P := fun c => (esc1 c).all (fun x => x != 60 && x != 62 && x != 34)) esc_all c
  have h2 := List.all_eq_true.1 this x hc
  simp only [Bool.and_eq_true, bne_iff_ne, ne_eq] at h2
  exact ⟨h2.1.1, h2.1.2, h2.2⟩
theorem attrs_ne {as : List PairL} (h : as.all attrB = true) : ∀ x ∈ attrsS as, x ≠ 62 ∧ x ≠ 60 := by
  intro x hx
  obtain ⟨p, hp, hc⟩ := List.mem_flatMap.1 hx
  have h1 := List.all_eq_true.1 h p hp
  unfold attrB at h1
  rw [Bool.and_eq_true] at h1
  unfold attrS at hc
  simp only [List.mem_cons, List.mem_append, List.not_mem_nil, or_false] at hc
  rcases hc with rfl | hc | (rfl | rfl) | hc | rfl
  · decide
  · have := nb_ne (name_byte h1.1 x hc); exact ⟨this.2.2.1, this.2.2.2.1⟩
  · decide
  · decide
  · have := esc_ne x hc; exact ⟨this.2.1, this.1⟩
  · decide
theorem unescape_escape (l : Bytes) : unescape (escape l) = some l := (unescape_is _ _).2 rfl
theorem attrsG_is : ∀ (as : List PairL) (f : Nat), as.all attrB = true → (Lib.trimPrefix (attrsS as) [32]).length ≤ f → attrsG f (Lib.trimPrefix (attrsS as) [32]) = as
  | [], f, _, _ => by cases f <;> rfl
  | p :: as, f, h, hl => by
    rw [List.all_cons, Bool.and_eq_true] at h
    have hp := h.1
    unfold attrB at hp
    rw [Bool.and_eq_true] at hp
    have e1 : Lib.trimPrefix (attrsS (p :: as)) [32] = p.1 ++ (([61, 34] : Bytes) ++ (escape p.2 ++ ([34] ++ attrsS as))) := by
      unfold attrsS attrS
      rw [List.flatMap_cons]
      simp [Lib.trimPrefix, Lib.hasPrefix]
    rw [e1] at hl ⊢
    cases f with
    | zero => simp at hl
    | succ f =>
      have e2 : Lib.cut (p.1 ++ (([61, 34] : Bytes) ++ (escape p.2 ++ ([34] ++ attrsS as)))) [61, 34] = (p.1, escape p.2 ++ ([34] ++ attrsS as), true) :=
        cut_at 61 [34] _ _ (fun x hx => (nb_ne (name_byte hp.1 x hx)).2.1)
      have e3 : Lib.cut (escape p.2 ++ (([34] : Bytes) ++ attrsS as)) [34] = (escape p.2, attrsS as, true) :=
        cut_at 34 [] _ _ (fun x hx => (esc_ne x hx).2.2)
      unfold attrsG
      rw [if_neg (by simp), e2, e3, unescape_escape]
      have hl2 : (Lib.trimPrefix (attrsS as) [32]).length ≤ f := by
        have := Lib.trimPrefix_le (attrsS as) [32]
        simp at hl
        omega
      rw [attrsG_is as f h.2 hl2]
      rfl
theorem elementG_is {nm : Bytes} {as : List PairL} {tx : Bytes} (hn : nameB nm = true) (ha : as.all attrB = true) : elementG (nm ++ attrsS as) (escape tx) = .mk nm as tx [] := by
  have hnm : ∀ x ∈ nm, x ≠ 32 := fun x hx => (nb_ne (name_byte hn x hx)).1
  have hc : (Lib.cut (nm ++ attrsS as) [32]).1 = nm ∧ (Lib.cut (nm ++ attrsS as) [32]).2.1 = Lib.trimPrefix (attrsS as) [32] := by
    cases as with
    | nil =>
      have : Lib.cut (nm ++ attrsS []) [32] = (nm, [], false) := by
        rw [show nm ++ attrsS [] = nm by simp [attrsS]]
        exact cut_out 32 [] nm hnm
      rw [this]
      exact ⟨rfl, rfl⟩
    | cons p as =>
      have e : attrsS (p :: as) = ([32] : Bytes) ++ Lib.trimPrefix (attrsS (p :: as)) [32] := by
        unfold attrsS attrS
        rw [List.flatMap_cons]
        simp [Lib.trimPrefix, Lib.hasPrefix]
      have : Lib.cut (nm ++ attrsS (p :: as)) [32] = (nm, Lib.trimPrefix (attrsS (p :: as)) [32], true) := by
        rw [e]
        have h2 := cut_at 32 [] nm (Lib.trimPrefix (attrsS (p :: as)) [32]) hnm
        rw [← e]
        rw [← e] at h2
        exact h2
      rw [this]
      exact ⟨rfl, rfl⟩
  unfold elementG
  rw [hc.1, hc.2, attrsG_is as _ ha (Nat.le_refl _), unescape_escape]
  rfl
end Xm
end Go.Proofs.YtpleaopefngafaaDoor
