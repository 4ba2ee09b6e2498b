/- What the document's own Plain answers, for any byte. -/
import Derived.Test.YtbpeohadgplaaaaDoorWalkG
namespace Go.Proofs.YtbpeohadgplaaaaDoor
set_option maxRecDepth 8000
open Go.RowKit

def allL : List UInt8 := [97, 98, 99, 100, 101, 102, 103, 104, 105, 106, 107, 108, 109, 110, 111, 112, 113, 114, 115, 116, 117, 118, 119, 120, 121, 122, 65, 66, 67, 68, 69, 70, 71, 72, 73, 74, 75, 76, 77, 78, 79, 80, 81, 82, 83, 84, 85, 86, 87, 88, 89, 90, 48, 49, 50, 51, 52, 53, 54, 55, 56, 57, 45, 46, 95, 126]
theorem all_plain : ∀ n : Nat, n < 256 → allL.contains (UInt8.ofNat n) = Pct.plainB (UInt8.ofNat n) := by decide +kernel

theorem all_plain' (c : UInt8) : allL.contains c = Pct.plainB c := by
  have := all_plain c.toNat (Pct.u8_lt c)
  rwa [UInt8.ofNat_toNat] at this
def allS : ByteArray := S allL
theorem allS_lit : (⟨(List.append [97, 98, 99, 100, 101, 102, 103, 104, 105, 106, 107, 108, 109, 110, 111, 112, 113, 114, 115, 116, 117, 118, 119, 120, 121, 122, 65, 66, 67, 68, 69, 70, 71] [72, 73, 74, 75, 76, 77, 78, 79, 80, 81, 82, 83, 84, 85, 86, 87, 88, 89, 90, 48, 49, 50, 51, 52, 53, 54, 55, 56, 57, 45, 46, 95, 126]).toArray⟩ : ByteArray) = allS := rfl
theorem allS_size : allS.size = 66 := by decide +kernel
theorem allS_at (k : Nat) (h : k < allS.size) : allL[k]? = some allS[k] := by
  have hk : k < allL.length := h
  rw [List.getElem?_eq_getElem hk]
  rfl
theorem plain_yes {c : UInt8} {k : Nat} (h : k < allS.size) (he : allS[k].toNat = c.toNat) : Pct.plainB c = true := by
  rw [← all_plain', List.contains_iff_mem]
  have := allS_at k h
  rw [Pct.u8_eq he] at this
  exact List.mem_of_getElem? this
theorem plain_no {c : UInt8} (h : ∀ (j : Nat) (hj : j < allS.size), allS[j].toNat ≠ c.toNat) : Pct.plainB c = false := by
  rw [← all_plain']
  rw [← Bool.not_eq_true, List.contains_iff_mem]
  intro hm
  obtain ⟨j, hj⟩ := List.mem_iff_getElem?.1 hm
  have hjl : j < allS.size := (List.getElem?_eq_some_iff.1 hj).1
  have := allS_at j hjl
  rw [hj] at this
  exact h j hjl (by rw [← Option.some.inj this])

set_option maxHeartbeats 400000 in
set_option maxRecDepth 100000 in
theorem refPlain_any (c : UInt8) (w : World) :
    Calls Tryd.prog 93 #[B c] w fun e w' => e = .returned (.bool (Pct.plainB c)) ∧ w = w' := by
  have hsz : allS.size ≤ 66 := Nat.le_of_eq allS_size
  go_enter Tryd.func93, Tryd.ntmps93
  go_wp2
  rw [allS_lit]
  go_loop [4] (fun i => ∃ k : Nat, k ≤ allS.size ∧ i = .int .i64 k ∧ ∀ (j : Nat) (hj : j < allS.size), j < k → allS[j].toNat ≠ c.toNat) (fun i => allS.size - (intOf i).toNat)
  case atStart => exact ⟨0, Nat.zero_le _, rfl, fun j _ hj => absurd hj (by omega)⟩
  case round =>
    obtain ⟨k, hk, rfl, hn⟩ := hrel
    have HN := Lib.hid hn
    clear hn
    by_cases hlt : k < allS.size
    · by_cases hc : allS[k].toNat = c.toNat
      · have hc' : ((allS[k].toNat : Int) == (c.toNat : Int)) = true := by rw [hc]; simp
        have HP := Lib.hid (plain_yes hlt hc)
        clear hc
        go_wp2
        go_ret
        exact ⟨ret_bool HP.out.symm, rfl⟩
      · have hc' : ((allS[k].toNat : Int) == (c.toNat : Int)) = false := by simp; omega
        have HC := Lib.hid hc
        clear hc
        go_wp2
        go_round
        case rel =>
          refine ⟨k + 1, by omega, by go_num, fun j hj hjk => ?_⟩
          by_cases e : j = k
          · subst e; exact HC.out
          · exact HN.out j hj (by omega)
        case measure => simp [intOf]; omega
    · have HP := Lib.hid (plain_no (c := c) fun j hj => HN.out j hj (by omega))
      go_wp2
      go_ret
      exact ⟨ret_bool HP.out.symm, rfl⟩
end Go.Proofs.YtbpeohadgplaaaaDoor
