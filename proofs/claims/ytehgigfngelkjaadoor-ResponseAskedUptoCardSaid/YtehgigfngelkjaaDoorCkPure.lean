/- Plain functions on lists of bytes for cookies that are sent (tokens, values, headers, lines) and what follows of them; no program stands in it. No condition. -/
import Derived.Test.YtehgigfngelkjaaDoorForms
import Derived.Lib.SlTrimSet
namespace Go.Proofs.YtehgigfngelkjaaDoor
set_option maxRecDepth 8000
namespace Ck
open Pct (PairL cutAt split)
abbrev Bytes := List UInt8

theorem byte_all {P : UInt8 → Bool} (h : ∀ n : Nat, n < 256 → P (UInt8.ofNat n) = true) (c : UInt8) : P c = true := by
  have := h c.toNat (Pct.u8_lt c)
  simpa using this

def tokB (c : UInt8) : Bool := decide (97 ≤ c.toNat ∧ c.toNat ≤ 122 ∨ 65 ≤ c.toNat ∧ c.toNat ≤ 90 ∨ 48 ≤ c.toNat ∧ c.toNat ≤ 57 ∨ c.toNat = 45)
def token (l : Bytes) : Bool := !l.isEmpty && l.all tokB
def valB (c : UInt8) : Bool := decide (33 ≤ c.toNat ∧ c.toNat ≤ 126 ∧ c.toNat ≠ 34 ∧ c.toNat ≠ 44 ∧ c.toNat ≠ 59 ∧ c.toNat ≠ 92)
def value (l : Bytes) : Bool := l.all valB

/-- The bytes of a token, as the program lays them. -/
def toks : Bytes := [97, 98, 99, 100, 101, 102, 103, 104, 105, 106, 107, 108, 109, 110, 111, 112, 113, 114, 115, 116, 117, 118, 119, 120, 121, 122, 65, 66, 67, 68, 69, 70, 71, 72, 73, 74, 75, 76, 77, 78, 79, 80, 81, 82, 83, 84, 85, 86, 87, 88, 89, 90, 48, 49, 50, 51, 52, 53, 54, 55, 56, 57, 45]
theorem toks_are (c : UInt8) : toks.contains c = tokB c := by
  have := byte_all (P := fun c => toks.contains c == tokB c) (by decide +kernel) c
  exact beq_iff_eq.1 this

theorem dropWhile_nil {p : UInt8 → Bool} : ∀ {l : Bytes}, l.dropWhile p = [] → l.all p = true
  | [], _ => rfl
  | x :: r, h => by
    by_cases hx : p x = true
    · rw [List.dropWhile_cons_of_pos hx] at h
      simp [hx]
      have := dropWhile_nil h
      simpa using this
    · rw [List.dropWhile_cons_of_neg hx] at h
      cases h
theorem dropWhile_all {p : UInt8 → Bool} : ∀ {l : Bytes}, l.all p = true → l.dropWhile p = []
  | [], _ => rfl
  | x :: r, h => by
    simp only [List.all_cons, Bool.and_eq_true] at h
    rw [List.dropWhile_cons_of_pos h.1]
    exact dropWhile_all h.2
theorem dropWhile_keeps {p : UInt8 → Bool} {c : UInt8} : ∀ {l : Bytes}, c ∈ l → p c = false → c ∈ l.dropWhile p
  | [], h, _ => by cases h
  | x :: r, h, hc => by
    by_cases hx : p x = true
    · rw [List.dropWhile_cons_of_pos hx]
      rcases List.mem_cons.1 h with rfl | h
      · rw [hx] at hc; cases hc
      · exact dropWhile_keeps h hc
    · rw [List.dropWhile_cons_of_neg hx]
      exact h
theorem trimS_nil (l cs : Bytes) : (Lib.trimS l cs).isEmpty = l.all (cs.contains ·) := by
  cases h : l.all (cs.contains ·) with
  | true =>
    have : Lib.trimS l cs = [] := by
      unfold Lib.trimS Lib.trimLeftS Lib.trimRightS
      rw [dropWhile_all (l := l.reverse) (by rw [List.all_reverse]; exact h)]
      rfl
    rw [this]; rfl
  | false =>
    obtain ⟨c, hc, hb⟩ := List.all_eq_false.1 h
    have hb' : (cs.contains c) = false := by simpa using hb
    have h1 : c ∈ Lib.trimS l cs := by
      unfold Lib.trimS Lib.trimLeftS Lib.trimRightS
      refine dropWhile_keeps ?_ hb'
      rw [List.mem_reverse]
      exact dropWhile_keeps (List.mem_reverse.2 hc) hb'
    cases h2 : Lib.trimS l cs with
    | nil => rw [h2] at h1; cases h1
    | cons _ _ => rfl
theorem toks_all (l : Bytes) : l.all (toks.contains ·) = l.all tokB := by
  congr 1
  funext c
  exact toks_are c
theorem token_trim (l : Bytes) : token l = (!l.isEmpty && (Lib.trimS l toks).isEmpty) := by
  unfold token
  rw [trimS_nil, toks_all]

/-- Without spaces at its ends. -/
def trim (l : Bytes) : Bytes := Lib.trimS l [32]
def spB (c : UInt8) : Bool := c == 32
theorem sp_is : (fun c : UInt8 => ([32] : Bytes).contains c) = spB := by
  funext c
  exact Lib.contains_one 32 c
theorem dw_append (p : UInt8 → Bool) (v : Bytes) : ∀ u : Bytes, (∃ c ∈ u, p c = false) → (u ++ v).dropWhile p = u.dropWhile p ++ v
  | [], ⟨c, hc, _⟩ => by cases hc
  | x :: r, ⟨c, hc, hp⟩ => by
    by_cases hx : p x = true
    · rw [List.cons_append, List.dropWhile_cons_of_pos hx, List.dropWhile_cons_of_pos hx]
      rcases List.mem_cons.1 hc with rfl | h
      · rw [hx] at hp; cases hp
      · exact dw_append p v r ⟨c, h, hp⟩
    · rw [List.cons_append, List.dropWhile_cons_of_neg hx, List.dropWhile_cons_of_neg hx, List.cons_append]
theorem dw_all (p : UInt8 → Bool) (v : Bytes) : ∀ u : Bytes, (∀ c ∈ u, p c = true) → (u ++ v).dropWhile p = v.dropWhile p
  | [], _ => rfl
  | x :: r, h => by
    rw [List.cons_append, List.dropWhile_cons_of_pos (h x (by simp))]
    exact dw_all p v r (fun c hc => h c (by simp [hc]))
theorem trim_len (l : Bytes) : (trim l).length ≤ l.length := by
  unfold trim Lib.trimS Lib.trimLeftS Lib.trimRightS
  refine Nat.le_trans (List.Sublist.length_le (List.dropWhile_sublist _)) ?_
  rw [List.length_reverse]
  refine Nat.le_trans (List.Sublist.length_le (List.dropWhile_sublist _)) ?_
  rw [List.length_reverse]
  exact Nat.le_refl _

/-- A piece's pair. -/
def piece (p : Bytes) : Option PairL := if ((cutAt 61 p).2.2 && token (cutAt 61 p).1 && value (cutAt 61 p).2.1) = true then some ((cutAt 61 p).1, (cutAt 61 p).2.1) else none
/-- The pieces, gone through: 5: too many; 10: one that is none. -/
def sentGo (acc : List PairL) : List Bytes → Except Nat (List PairL)
  | [] => .ok acc
  | p :: ps =>
    if trim p = [] then sentGo acc ps
    else if acc.length = 20 then .error 5
    else match piece (trim p) with
      | none => .error 10
      | some q => sentGo (acc ++ [q]) ps
def sent (l : Bytes) : Except Nat (List PairL) := sentGo [] (split 59 l)

theorem sentGo_empty (acc : List PairL) (p : Bytes) (ps : List Bytes) (hp : trim p = []) : sentGo acc (p :: ps) = sentGo acc ps := by rw [sentGo, if_pos hp]
theorem sentGo_full (acc : List PairL) (p : Bytes) (ps : List Bytes) (hp : trim p ≠ []) (h : acc.length = 20) : sentGo acc (p :: ps) = .error 5 := by rw [sentGo, if_neg hp, if_pos h]
theorem sentGo_bad (acc : List PairL) (p : Bytes) (ps : List Bytes) (hp : trim p ≠ []) (h : acc.length ≠ 20) (hq : piece (trim p) = none) : sentGo acc (p :: ps) = .error 10 := by rw [sentGo, if_neg hp, if_neg h, hq]
theorem sentGo_pair (acc : List PairL) (p : Bytes) (ps : List Bytes) (q : PairL) (hp : trim p ≠ []) (h : acc.length ≠ 20) (hq : piece (trim p) = some q) : sentGo acc (p :: ps) = sentGo (acc ++ [q]) ps := by rw [sentGo, if_neg hp, if_neg h, hq]

theorem piece_no1 {p a b : Bytes} (h : cutAt 61 p = (a, b, false)) : piece p = none := by unfold piece; rw [h]; rfl
theorem piece_no2 {p a b : Bytes} {f : Bool} (h : cutAt 61 p = (a, b, f)) (ha : token a = false) : piece p = none := by unfold piece; rw [h]; simp [ha]
theorem piece_no3 {p a b : Bytes} {f : Bool} (h : cutAt 61 p = (a, b, f)) (hb : value b = false) : piece p = none := by unfold piece; rw [h]; simp [hb]
theorem piece_yes {p a b : Bytes} (h : cutAt 61 p = (a, b, true)) (ha : token a = true) (hb : value b = true) : piece p = some (a, b) := by unfold piece; rw [h]; simp [ha, hb]

/-- A pair as it is sent. -/
def one (q : PairL) : Bytes := q.1 ++ 61 :: q.2
def line : List PairL → Bytes
  | [] => []
  | [q] => one q
  | q :: r => one q ++ 59 :: 32 :: line r
theorem line_two (q q' : PairL) (r : List PairL) : line (q :: q' :: r) = one q ++ 59 :: 32 :: line (q' :: r) := by
  rw [line]
  intro h
  cases h
theorem line_snoc : ∀ (l : List PairL) (q : PairL), line (l ++ [q]) = line l ++ ((if l = [] then [] else [59, 32]) ++ one q)
  | [], q => by simp [line]
  | [p], q => by
    rw [List.cons_append, List.nil_append, line_two, if_neg (by simp)]
    simp [line]
  | p :: p' :: r, q => by
    have ih := line_snoc (p' :: r) q
    rw [if_neg (by simp)] at ih ⊢
    rw [List.cons_append, List.cons_append, line_two, line_two, ← List.cons_append, ih]
    simp
def okP (q : PairL) : Bool := token q.1 && value q.2

theorem tokB_no (c : UInt8) (h : tokB c = true) : c ≠ 61 ∧ c ≠ 59 ∧ c ≠ 32 := by
  have := byte_all (P := fun c => !(tokB c) || (decide (c ≠ 61) && decide (c ≠ 59) && decide (c ≠ 32))) (by decide +kernel) c
  rw [h] at this
  simpa [and_assoc] using this
theorem valB_no (c : UInt8) (h : valB c = true) : c ≠ 59 ∧ c ≠ 32 := by
  have := byte_all (P := fun c => !(valB c) || (decide (c ≠ 59) && decide (c ≠ 32))) (by decide +kernel) c
  rw [h] at this
  simpa using this
theorem one_no {q : PairL} (h : okP q = true) : ∀ x ∈ one q, x ≠ 59 ∧ x ≠ 32 := by
  unfold okP token value at h
  simp only [Bool.and_eq_true] at h
  intro x hx
  unfold one at hx
  rw [List.mem_append, List.mem_cons] at hx
  rcases hx with hx | rfl | hx
  · exact (tokB_no x (List.all_eq_true.1 h.1.2 x hx)).2
  · decide
  · exact valB_no x (List.all_eq_true.1 h.2 x hx)
theorem one_ne (q : PairL) : one q ≠ [] := by unfold one; simp
theorem trim_same {l : Bytes} (h : ∀ x ∈ l, x ≠ 32) : trim l = l := by
  have hd : ∀ m : Bytes, (∀ x ∈ m, x ≠ 32) → m.dropWhile (fun c => ([32] : Bytes).contains c) = m := by
    intro m hm
    rw [sp_is]
    cases m with
    | nil => rfl
    | cons c r =>
      rw [List.dropWhile_cons_of_neg]
      have := hm c (by simp)
      unfold spB
      simpa using this
  unfold trim Lib.trimS Lib.trimLeftS Lib.trimRightS
  rw [hd l.reverse (fun x hx => h x (List.mem_reverse.1 hx)), List.reverse_reverse, hd l h]
theorem trim_ahead {l : Bytes} (h : ∀ x ∈ l, x ≠ 32) (h0 : l ≠ []) : trim (32 :: l) = l := by
  have hd : ∀ m : Bytes, (∀ x ∈ m, x ≠ 32) → m.dropWhile spB = m := by
    intro m hm
    cases m with
    | nil => rfl
    | cons c r =>
      rw [List.dropWhile_cons_of_neg]
      have := hm c (by simp)
      unfold spB
      simpa using this
  unfold trim Lib.trimS Lib.trimLeftS Lib.trimRightS
  rw [sp_is, List.reverse_cons]
  cases hr : l.reverse with
  | nil =>
    have : l = [] := by simpa using hr
    exact absurd this h0
  | cons c r =>
    rw [List.cons_append, List.dropWhile_cons_of_neg (by
      have hc : c ∈ l := by
        have : c ∈ l.reverse := by rw [hr]; simp
        simpa using this
      have := h c hc
      unfold spB
      simpa using this), ← List.cons_append, ← hr, List.reverse_append, List.reverse_reverse]
    rw [show [(32 : UInt8)].reverse = [32] from rfl, List.cons_append, List.nil_append, List.dropWhile_cons_of_pos (by rfl), hd l h]
theorem piece_one {q : PairL} (h : okP q = true) : piece (one q) = some q := by
  have h' := h
  unfold okP token at h
  simp only [Bool.and_eq_true] at h
  have e : cutAt 61 (one q) = (q.1, q.2, true) := Pct.cutAt_first 61 _ _ fun x hx => (tokB_no x (List.all_eq_true.1 h.1.2 x hx)).1
  unfold okP at h'
  simp only [Bool.and_eq_true] at h'
  exact piece_yes e h'.1 h'.2

def gap (q : PairL) : Bytes := 32 :: one q
theorem split_gap : ∀ (l : List PairL), l ≠ [] → l.all okP = true → split 59 (32 :: line l) = l.map gap
  | [], h, _ => absurd rfl h
  | [q], _, h => by
    simp only [List.all_cons, List.all_nil, Bool.and_true] at h
    rw [line, Pct.split_none 59]
    · rfl
    · intro x hx
      rcases List.mem_cons.1 hx with rfl | hx
      · decide
      · exact (one_no h x hx).1
  | q :: q' :: r, _, h => by
    rw [List.all_cons, Bool.and_eq_true] at h
    have ih := split_gap (q' :: r) (by simp) h.2
    rw [line_two, ← List.cons_append, Pct.split_append, ih, Pct.split_none 59]
    · rfl
    · intro x hx
      rcases List.mem_cons.1 hx with rfl | hx
      · decide
      · exact (one_no h.1 x hx).1
theorem split_line (q : PairL) (r : List PairL) (h : (q :: r).all okP = true) : split 59 (line (q :: r)) = one q :: r.map gap := by
  rw [List.all_cons, Bool.and_eq_true] at h
  cases r with
  | nil =>
    rw [line, Pct.split_none 59 _ fun x hx => (one_no h.1 x hx).1]
    rfl
  | cons q' r =>
    rw [line_two, Pct.split_append, split_gap (q' :: r) (by simp) h.2, Pct.split_none 59 _ fun x hx => (one_no h.1 x hx).1]
    rfl
theorem sentGo_gaps : ∀ (l acc : List PairL), l.all okP = true → acc.length + l.length ≤ 20 → sentGo acc (l.map gap) = .ok (acc ++ l)
  | [], acc, _, _ => by simp [sentGo]
  | q :: r, acc, h, hl => by
    rw [List.all_cons, Bool.and_eq_true] at h
    simp only [List.length_cons] at hl
    have e : trim (gap q) = one q := trim_ahead (fun x hx => (one_no h.1 x hx).2) (one_ne q)
    rw [List.map_cons, sentGo_pair acc (gap q) _ q (by rw [e]; exact one_ne q) (by omega) (by rw [e]; exact piece_one h.1), sentGo_gaps r (acc ++ [q]) h.2 (by simp; omega)]
    simp
theorem sentGo_over : ∀ (l acc : List PairL), l.all okP = true → acc.length ≤ 20 → 20 < acc.length + l.length → sentGo acc (l.map gap) = .error 5
  | [], acc, _, h1, h2 => by simp at h2; omega
  | q :: r, acc, h, h1, h2 => by
    rw [List.all_cons, Bool.and_eq_true] at h
    simp only [List.length_cons] at h2
    have e : trim (gap q) = one q := trim_ahead (fun x hx => (one_no h.1 x hx).2) (one_ne q)
    by_cases hf : acc.length = 20
    · rw [List.map_cons, sentGo_full acc (gap q) _ (by rw [e]; exact one_ne q) hf]
    · rw [List.map_cons, sentGo_pair acc (gap q) _ q (by rw [e]; exact one_ne q) hf (by rw [e]; exact piece_one h.1), sentGo_over r (acc ++ [q]) h.2 (by simp; omega) (by simp; omega)]
/-- WHAT IS SENT IS READ. -/
theorem sent_line {l : List PairL} (h : l.all okP = true) (hl : l.length ≤ 20) : sent (line l) = .ok l := by
  cases l with
  | nil => rfl
  | cons q r =>
    have h' := h
    rw [List.all_cons, Bool.and_eq_true] at h'
    simp only [List.length_cons] at hl
    have e : trim (one q) = one q := trim_same (fun x hx => (one_no h'.1 x hx).2)
    unfold sent
    rw [split_line q r h, sentGo_pair [] (one q) _ q (by rw [e]; exact one_ne q) (by simp) (by rw [e]; exact piece_one h'.1), sentGo_gaps r _ h'.2 (by simp; omega)]
    rfl
theorem sent_over {l : List PairL} (h : l.all okP = true) (hl : 20 < l.length) : sent (line l) = .error 5 := by
  cases l with
  | nil => simp at hl
  | cons q r =>
    have h' := h
    rw [List.all_cons, Bool.and_eq_true] at h'
    simp only [List.length_cons] at hl
    have e : trim (one q) = one q := trim_same (fun x hx => (one_no h'.1 x hx).2)
    unfold sent
    rw [split_line q r h, sentGo_pair [] (one q) _ q (by rw [e]; exact one_ne q) (by simp) (by rw [e]; exact piece_one h'.1), sentGo_over r _ h'.2 (by simp) (by simp; omega)]
theorem sentGo_len : ∀ (a : List Bytes) (acc x : List PairL), acc.length ≤ 20 → sentGo acc a = .ok x → x.length ≤ 20
  | [], acc, x, hl, h => by
    simp [sentGo] at h
    rw [← h]
    exact hl
  | p :: a, acc, x, hl, h => by
    by_cases hp : trim p = []
    · rw [sentGo_empty acc p a hp] at h
      exact sentGo_len a acc x hl h
    · by_cases hl' : acc.length = 20
      · rw [sentGo_full acc p a hp hl'] at h
        cases h
      · cases hq : piece (trim p) with
        | none => rw [sentGo_bad acc p a hp hl' hq] at h; cases h
        | some q =>
          rw [sentGo_pair acc p a q hp hl' hq] at h
          exact sentGo_len a _ x (by simp; omega) h
theorem sent_len {l : Bytes} {x : List PairL} (h : sent l = .ok x) : x.length ≤ 20 := sentGo_len _ _ _ (by simp) h
end Ck
end Go.Proofs.YtehgigfngelkjaaDoor
