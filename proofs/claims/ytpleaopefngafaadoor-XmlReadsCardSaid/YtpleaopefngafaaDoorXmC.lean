/- xml.Escape, for any text of at most 2^28 bytes, where its table reads as its text lays it. -/
import Derived.Test.YtpleaopefngafaaDoorXmB
namespace Go.Proofs.YtpleaopefngafaaDoor
set_option maxRecDepth 8000
open Go.RowKit

set_option maxHeartbeats 400000 in
theorem escape_any (l : List UInt8) (w : World) (he : EnvX w) (hl : l.length ≤ 268435455) :
    Calls Tryd.prog 33 #[.string (S l)] w fun e w' => e = .returned (.string (S (Xm.escape l))) ∧ Below w.heap.size w w' := by
  have hesc := he.esc
  go_enter Tryd.func33, Tryd.ntmps33
  go_wp2_with (refine wpList_load_mid rfl 72 (.global 0) rfl 0 0 rfl escCells (.array 5 71) hesc Tryd.underlying72 rfl (by kernel_rfl) ?_)
  clear hesc
  go_loopw [0, 6] (fun v i wr => ∃ k : Nat, k ≤ 5 ∧ i = .int .i64 k ∧ v = .string (S (Xm.stE l k)) ∧ Below w.heap.size w wr) (fun _ i _ => 5 - (intOf i).toNat)
  case atStart => exact ⟨0, Nat.zero_le _, rfl, rfl, Below.refl _ _⟩
  case round =>
    obtain ⟨k, hk, rfl, rfl, hb⟩ := hrel
    have hlen := Xm.stE_len l k hk
    have j0 : (0 : Int) ≤ (k : Int) := by omega
    by_cases hlt : k < 5
    · have j1 : (k : Int) < 5 := by omega
      have hx := run_esc_index wr k hlt
      have hW := Xm.tabW_len k hlt
      have HST := Lib.hid (show Xm.stE l (k + 1) = Lib.replaceAll (Xm.stE l k) [Xm.tabP k] (Xm.tabW k) from rfl)
      generalize Xm.stE l k = x at hlen HST
      generalize Xm.tabW k = u at hW HST hx
      generalize Xm.tabP k = c at HST hx
      have hE := he.next hb
      have hbs := hb.size
      go_wp2_with fail
      refine (replaceAll_to x [c] u _ (hE.next ((Below.refl _ _).alloc (Nat.le_refl _) _)) (by omega) (Nat.le_refl _) (by omega)).mono ?_
      rintro e w1 ⟨rfl, hb1⟩
      have hb2 : Below w.heap.size w w1 := (hb.alloc hbs _).trans (hb1.mono (by simp; omega))
      go_wp2
      go_roundw
      case rel => exact ⟨k + 1, by omega, by go_num, by rw [HST.out], hb2⟩
      case measure => simp [intOf]; omega
    · have j1 : ¬ (k : Int) < 5 := by omega
      have h5 : k = 5 := by omega
      have H5 := Lib.hid (show Xm.stE l k = Xm.escape l by rw [h5]; exact Xm.stE_five l)
      clear h5 hlen
      go_wp2
      go_ret
      exact ⟨by rw [← H5.out]; rfl, hb⟩
end Go.Proofs.YtpleaopefngafaaDoor
