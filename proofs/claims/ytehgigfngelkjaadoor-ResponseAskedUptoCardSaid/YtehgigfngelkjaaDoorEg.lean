/- What the document's Texts answers, for any two slices of texts. -/
import Derived.Test.YtehgigfngelkjaaDoorEe
namespace Go.Proofs.YtehgigfngelkjaaDoor
set_option maxRecDepth 8000
open Go.RowKit

/-- The cells of a slice of texts. -/
def SCells (w : World) (B : Nat) (A : Option Addr) (l : List (List UInt8)) : Prop :=
  0 < l.length → ∃ b off, A = some ⟨b, off, none⟩ ∧ b < B ∧ ∀ k (h : k < l.length), w.cell? ⟨b, off + k, none⟩ = some (.string (S l[k]))

set_option maxHeartbeats 800000 in
theorem texts_same (A A' : Option Addr) (cap cap' : Nat) (l m : List (List UInt8)) (w : World) (hlm : l.length = m.length) (hl : SCells w w.heap.size A l) (hm : SCells w w.heap.size A' m) (hb : l.length ≤ 1099511627776) :
    Calls Tryd.prog 17 #[.slice A l.length cap, .slice A' m.length cap'] w fun e w' => e = .returned (.bool (decide (l = m))) ∧ ∃ n, w' = w.drewN n := by
  have HLM := Lib.hid hlm
  have hne : ((l.length : Int) != (m.length : Int)) = false := by simp; omega
  clear hlm
  go_enter Tryd.func17, Tryd.ntmps17
  go_wp2
  go_loopw [5] (fun i wr => ∃ k : Nat, k ≤ l.length ∧ i = .int .i64 k ∧ l.take k = m.take k ∧ ∃ n, wr = w.drewN n) (fun i _ => l.length - (intOf i).toNat)
  case atStart => exact ⟨0, Nat.zero_le _, rfl, rfl, 0, rfl⟩
  case round =>
    obtain ⟨k, hk, rfl, htk, n, rfl⟩ := hrel
    have HT := Lib.hid htk
    clear htk
    by_cases hlt : k < l.length
    · have hlt' : k < m.length := by have := HLM.out; omega
      obtain ⟨b, off, rfl, hbb, hc⟩ := hl (by omega)
      obtain ⟨b', off', rfl, hbb', hc'⟩ := hm (by omega)
      have c0 := hc k hlt
      have d0 := hc' k hlt'
      clear hc hc' hl hm
      have i0 : (0 : Int) ≤ (k : Int) := by omega
      have i1 : (k : Int) < (l.length : Int) := by omega
      have i2 : (k : Int) < (m.length : Int) := by omega
      by_cases hq : l[k] = m[k]
      · have HQ := Lib.hid hq
        have hs : (!((S l[k]).toList == (S m[k]).toList)) = false := by rw [hq]; simp
        clear hq
        go_wp2
        go_quiet (fail)
        go_wp2
        go_roundw
        case rel =>
          refine ⟨k + 1, by omega, by go_num, ?_, _, rfl⟩
          rw [List.take_succ_eq_append_getElem hlt, List.take_succ_eq_append_getElem hlt', HT.out, HQ.out]
        case measure => simp [intOf]; omega
      · have HQ := Lib.hid hq
        have hs : (!((S l[k]).toList == (S m[k]).toList)) = true := by rw [S_list, S_list]; simp [hq]
        clear hq
        go_wp2
        go_quiet (fail)
        go_wp2
        go_ret
        refine ⟨ret_bool ?_, _, World.drewN_drewN _ _ _⟩
        have hne' : l ≠ m := by
          intro h
          exact HQ.out (by subst h; rfl)
        rw [decide_eq_false hne']
    · have HE := Lib.hid (show l = m by
        have h1 := HT.out
        have h2 := HLM.out
        rwa [List.take_of_length_le (by omega), List.take_of_length_le (by omega)] at h1)
      go_wp2
      go_ret
      exact ⟨ret_bool (decide_eq_true HE.out).symm, _, rfl⟩
end Go.Proofs.YtehgigfngelkjaaDoor
