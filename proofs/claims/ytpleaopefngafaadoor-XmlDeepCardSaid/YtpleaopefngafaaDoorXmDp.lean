/- Elements that lie in one another, and many side by side: how they are written, whether they can be, what is read of them. No program stands in it. No condition. -/
import Derived.Test.YtpleaopefngafaaDoorXmG
namespace Go.Proofs.YtpleaopefngafaaDoor
set_option maxRecDepth 8000
namespace Xm

def dN : Nat → N
  | 0 => .mk [97] [] [] []
  | j + 1 => .mk [97] [] [] [dN j]
def dS : Nat → Bytes
  | 0 => [60, 97, 62, 60, 47, 97, 62]
  | j + 1 => [60, 97, 62] ++ dS j ++ [60, 47, 97, 62]
def leaf : N := .mk [99] [] [] []
def mN (k : Nat) : N := .mk [98] [] [] (List.replicate k leaf)
def tS : Nat → Bytes
  | 0 => [60, 98, 62]
  | k + 1 => tS k ++ [60, 99, 62, 60, 47, 99, 62]
theorem dS_len : ∀ j, (dS j).length = 7 * (j + 1)
  | 0 => rfl
  | j + 1 => by unfold dS; have := dS_len j; simp; omega
theorem tS_len : ∀ j, (tS j).length = 7 * j + 3
  | 0 => rfl
  | j + 1 => by unfold tS; have := tS_len j; simp; omega
theorem escape_nil : escape [] = [] := rfl
theorem wr_mk (nm : Bytes) (ks : List N) : wr (.mk nm [] [] ks) = 60 :: (nm ++ (62 :: (wrL ks ++ (60 :: 47 :: (nm ++ [62]))))) := by
  unfold wr
  simp [attrsS, escape_nil]
theorem wrL_one (k : N) : wrL [k] = wr k := by unfold wrL; simp [wrL]
theorem dS_wr : ∀ j, wr (dN j) = dS j
  | 0 => by unfold dN dS; rw [wr_mk]; unfold wrL; rfl
  | j + 1 => by
    unfold dN dS
    rw [wr_mk, wrL_one, dS_wr j]
    simp
theorem wrL_leaf : ∀ k, wrL (List.replicate (k + 1) leaf) = wrL (List.replicate k leaf) ++ [60, 99, 62, 60, 47, 99, 62]
  | 0 => by
    show wrL [leaf] = wrL [] ++ _
    rw [wrL_one]
    unfold leaf
    rw [wr_mk]
    unfold wrL
    rfl
  | k + 1 => by
    have h := wrL_leaf k
    rw [List.replicate_succ, wrL, h, ← List.append_assoc]
    rw [show wr leaf ++ wrL (List.replicate k leaf) = wrL (List.replicate (k + 1) leaf) by rw [List.replicate_succ, wrL]]
    rw [h]
theorem tS_wr (k : Nat) : wr (mN k) = tS k ++ [60, 47, 98, 62] := by
  have h : ∀ k, 60 :: 98 :: 62 :: wrL (List.replicate k leaf) = tS k := by
    intro k
    induction k with
    | zero => unfold tS; rw [List.replicate_zero]; unfold wrL; rfl
    | succ k ih => unfold tS; rw [wrL_leaf, ← ih]; simp
  unfold mN
  rw [wr_mk, ← h k]
  simp
theorem dN_size : ∀ j, size (dN j) = j + 1
  | 0 => by unfold dN size sizeL; rfl
  | j + 1 => by unfold dN size sizeL sizeL; rw [dN_size j]
theorem mN_size (k : Nat) : size (mN k) = k + 1 := by
  have h : ∀ k, sizeL (List.replicate k leaf) = k := by
    intro k
    induction k with
    | zero => rw [List.replicate_zero]; unfold sizeL; rfl
    | succ k ih =>
      rw [List.replicate_succ]
      unfold sizeL
      rw [ih]
      unfold leaf size sizeL
      omega
  unfold mN size
  rw [h]
theorem dN_own : ∀ j, own (dN j) = true
  | 0 => by unfold dN own ownL; decide
  | j + 1 => by
    unfold dN own ownL ownL
    rw [dN_own j]
    rfl
theorem mN_own (k : Nat) : own (mN k) = true := by
  have h : ∀ k, ownL (List.replicate k leaf) = true := by
    intro k
    induction k with
    | zero => rw [List.replicate_zero]; unfold ownL; rfl
    | succ k ih =>
      rw [List.replicate_succ]
      unfold ownL
      rw [ih, Bool.and_true]
      unfold leaf own ownL
      decide
  unfold mN own
  rw [h]
  simp
  decide
theorem dN_few : ∀ (j d r : Nat), few (dN j) d r = if j < d ∧ j < r then some (r - (j + 1)) else none
  | 0, d, r => by
    unfold dN few fewL
    by_cases h : d = 0 ∨ r = 0
    · rw [if_pos h, if_neg (by omega)]
    · rw [if_neg h, if_pos (by omega)]
  | j + 1, d, r => by
    unfold dN few
    by_cases h : d = 0 ∨ r = 0
    · rw [if_pos h, if_neg (by omega)]
    · rw [if_neg h]
      unfold fewL
      rw [dN_few j (d - 1) (r - 1)]
      by_cases h2 : j < d - 1 ∧ j < r - 1
      · rw [if_pos h2, if_pos (by omega)]
        exact congrArg some (by omega)
      · rw [if_neg h2, if_neg (by omega)]
theorem leaf_few : ∀ (k d r : Nat), 0 < d → fewL (List.replicate k leaf) d r = if k ≤ r then some (r - k) else none
  | 0, d, r, _ => by rw [List.replicate_zero]; unfold fewL; rfl
  | k + 1, d, r, hd => by
    rw [List.replicate_succ]
    unfold fewL
    have e : few leaf d r = if r = 0 then none else some (r - 1) := by
      unfold leaf few fewL
      by_cases h : r = 0
      · rw [if_pos (.inr h), if_pos h]
      · rw [if_neg (by omega), if_neg h]
    rw [e]
    by_cases h : r = 0
    · rw [if_pos h, if_neg (by omega)]
    · rw [if_neg h]
      show fewL (List.replicate k leaf) d (r - 1) = _
      rw [leaf_few k d (r - 1) hd]
      by_cases h2 : k ≤ r - 1
      · rw [if_pos h2, if_pos (by omega)]
        congr 1
        omega
      · rw [if_neg h2, if_neg (by omega)]
theorem dN_right (j : Nat) (hj : j < 200) : right (dN j) = decide (j < 8) := by
  unfold right
  rw [dN_few, dN_own]
  by_cases h : j < 8
  · rw [if_pos ⟨h, hj⟩, decide_eq_true h]; rfl
  · rw [if_neg (fun h' => h h'.1), decide_eq_false h]; rfl
theorem mN_right (k : Nat) : right (mN k) = decide (k < 200) := by
  have e : few (mN k) 8 200 = fewL (List.replicate k leaf) 7 199 := by
    unfold mN few
    rw [if_neg (by omega)]
  unfold right
  rw [e, leaf_few k 7 199 (by omega), mN_own]
  by_cases h : k < 200
  · rw [if_pos (by omega), decide_eq_true h]; rfl
  · rw [if_neg (by omega), decide_eq_false h]; rfl
/-- What is read of an element's text, where it is not too great. -/
theorem read_wr {n : N} (ho : own n = true) (hs : size n ≤ 400) : read (wr n) = if right n then some n else none := by
  cases hr : right n with
  | true => rw [if_pos rfl]; exact (read_is _ _).2 ⟨hr, rfl⟩
  | false =>
    rw [if_neg (by decide)]
    cases h : read (wr n) with
    | none => rfl
    | some m =>
      obtain ⟨h1, h2⟩ := (read_is _ _).1 h
      have ho1 : own m = true := by unfold right at h1; rw [Bool.and_eq_true] at h1; exact h1.2
      have hs1 : 2 * size m ≤ 800 := by
        unfold right at h1
        rw [Bool.and_eq_true] at h1
        obtain ⟨r, hr⟩ := Option.isSome_iff_exists.1 h1.1
        have := few_size m 8 200 r hr
        omega
      have e1 := guess_all m 800 ho1 hs1
      have e2 := guess_all n 800 ho (by omega)
      rw [h2, e2] at e1
      rw [← e1, hr] at h1
      cases h1
end Xm
end Go.Proofs.YtpleaopefngafaaDoor
