/- What the document's Few does, for any slice of pairs. -/
import Derived.Test.YtbpeohadgplaaaaDoorWritePure
import Derived.Test.YtbpeohadgplaaaaDoorHelp
namespace Go.Proofs.YtbpeohadgplaaaaDoor
set_option maxRecDepth 8000
open Go.RowKit

def few1 (q : Pct.PairL) : Bool := decide (q.1.length ≤ 60) && decide (q.2.length ≤ 60)
def fewB (l : List Pct.PairL) : Bool := l.all few1 && decide (l.length ≤ 50)

theorem fewB_bad {l : List Pct.PairL} {k : Nat} (hk : k < l.length) (h : few1 l[k] = false) : fewB l = false := by
  unfold fewB
  have : l.all few1 = false := by
    rw [← Bool.not_eq_true, List.all_eq_true]
    intro ha
    rw [ha _ (List.getElem_mem hk)] at h
    cases h
  rw [this]
  rfl
theorem few1_all {l : List Pct.PairL} (h : ∀ j (hj : j < l.length), few1 l[j] = true) : l.all few1 = true := by
  rw [List.all_eq_true]
  intro x hx
  obtain ⟨j, hj, rfl⟩ := List.getElem_of_mem hx
  exact h j hj

set_option maxHeartbeats 400000 in
theorem few_any (A : Option Addr) (cap : Nat) (l : List Pct.PairL) (w : World) (hl : PCells w w.heap.size A l) (hm : l.length ≤ 9223372036854775807) :
    Calls Tryd.prog 35 #[.slice A l.length cap] w fun e w' => e = .returned (.bool (fewB l)) ∧ w = w' := by
  go_enter Tryd.func35, Tryd.ntmps35
  go_wp2
  go_loop [3] (fun i => ∃ k : Nat, k ≤ l.length ∧ i = .int .i64 k ∧ ∀ j (hj : j < l.length), j < k → few1 l[j] = true) (fun i => l.length - (intOf i).toNat)
  case atStart => exact ⟨0, Nat.zero_le _, rfl, fun j _ hj => absurd hj (by omega)⟩
  case round =>
    obtain ⟨k, hk, rfl, hall⟩ := hrel
    have HALL := Lib.hid hall
    clear hall
    by_cases hlt : k < l.length
    · obtain ⟨b, off, rfl, hbb, hc⟩ := hl (by omega)
      obtain ⟨c0, c1⟩ := hc k hlt
      clear hc
      have i0 : (0 : Int) ≤ (k : Int) := by omega
      have i1 : (k : Int) < (l.length : Int) := by omega
      have z1 : (S l[k].1).size = l[k].1.length := rfl
      have z2 : (S l[k].2).size = l[k].2.length := rfl
      by_cases h1 : (S l[k].1).size ≤ 60
      · by_cases h2 : (S l[k].2).size ≤ 60
        · have HF := Lib.hid (show few1 l[k] = true by unfold few1; rw [← z1, ← z2]; simp [h1, h2])
          clear z1 z2
          go_wp2
          go_round
          case rel =>
            refine ⟨k + 1, by omega, by go_num, fun j hj hjk => ?_⟩
            by_cases e : j = k
            · subst e; exact HF.out
            · exact HALL.out j hj (by omega)
          case measure => simp [intOf]; omega
        · have HF := Lib.hid (fewB_bad hlt (show few1 l[k] = false by unfold few1; rw [← z1, ← z2]; simp [h2]))
          clear z1 z2
          go_wp2
          go_ret
          exact ⟨ret_bool HF.out.symm, rfl⟩
      · have HF := Lib.hid (fewB_bad hlt (show few1 l[k] = false by unfold few1; rw [← z1, ← z2]; simp [h1]))
        clear z1 z2
        go_wp2
        go_ret
        exact ⟨ret_bool HF.out.symm, rfl⟩
    · have HF := Lib.hid (show l.all few1 = true from few1_all fun j hj => HALL.out j hj (by omega))
      go_wp2
      go_ret
      refine ⟨ret_bool ?_, rfl⟩
      unfold fewB
      rw [HF.out]
      simp
      omega

theorem few_short {l : List Pct.PairL} (h : fewB l = true) : l.all short1 = true ∧ l.length ≤ 50 := by
  unfold fewB at h
  have h : l.all few1 = true ∧ l.length ≤ 50 := by simpa using h
  refine ⟨?_, h.2⟩
  rw [List.all_eq_true]
  intro x hx
  have h1 := List.all_eq_true.1 h.1 x hx
  unfold few1 at h1
  unfold short1
  simp at h1 ⊢
  omega
end Go.Proofs.YtbpeohadgplaaaaDoor
