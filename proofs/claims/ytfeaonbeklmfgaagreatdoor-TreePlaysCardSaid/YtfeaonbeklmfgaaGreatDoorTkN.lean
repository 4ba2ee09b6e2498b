/- Small facts of kinds, draws and names. No condition. -/
import Derived.Test.YtfeaonbeklmfgaaGreatDoorTkE
namespace Go.Proofs.YtfeaonbeklmfgaaGreatDoor
set_option maxRecDepth 8000
open Go.RowKit

theorem u64_nat {x : Int} (h : (Lit.int .u64 x).wf = true) : ∃ n : Nat, x = (n : Int) ∧ n < 18446744073709551616 := by
  have e1 : IntKind.u64.min = 0 := by decide
  have e2 : IntKind.u64.max = 18446744073709551615 := by decide
  simp [Lit.wf] at h
  rw [e1, e2] at h
  exact ⟨x.toNat, by omega, by omega⟩
theorem preI_cases (kind : Int) : (preI kind = [] ∧ (kind < 1 ∨ 6 < kind)) ∨ ∃ k : Nat, kind = k ∧ 1 ≤ k ∧ k ≤ 6 ∧ preI kind = Tk.pre k := by
  unfold preI
  by_cases h0 : 0 ≤ kind
  · rw [if_pos h0]
    by_cases h : 1 ≤ kind.toNat ∧ kind.toNat ≤ 6
    · exact .inr ⟨kind.toNat, by omega, h.1, h.2, rfl⟩
    · refine .inl ⟨?_, by omega⟩
      by_cases h7 : 7 ≤ kind.toNat
      · exact pre_none _ h7
      · rw [show kind.toNat = 0 by omega]
        rfl
  · rw [if_neg h0]
    exact .inl ⟨rfl, by omega⟩
theorem nameV_good {k : Nat} (h1 : 1 ≤ k) (h6 : k ≤ 6) (n : Nat) : nameV (k : Int) n = .tuple #[.string (S (Tk.name k n)), .int .i64 0] := by
  unfold nameV
  rw [preI_nat, pre_empty h6, decide_eq_false (by omega), if_neg (by simp)]
  rfl
theorem nameV_bad {kind : Int} (h : preI kind = []) (n : Nat) : nameV kind n = .tuple #[.string ⟨#[]⟩, .int .i64 8] := by
  unfold nameV
  rw [h]
  rfl
theorem name_length {k : Nat} (h1 : 1 ≤ k) (h6 : k ≤ 6) (n : Nat) : 19 ≤ (Tk.name k n).length ∧ (Tk.name k n).length ≤ 23 := by
  have := (Tk.pre_facts k (by omega)).2 h1
  rw [Tk.name_len]
  omega
end Go.Proofs.YtfeaonbeklmfgaaGreatDoor
