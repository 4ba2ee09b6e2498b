/- What the document's mark and Escape answer, for any text of at most 2^30 bytes; what strings.ReplaceAll answers. -/
import Derived.Test.YtpleaopefngafaaDoorCa
import Derived.Test.YtpleaopefngafaaDoorXmPure
import Derived.Test.YtpleaopefngafaaDoorShelf
namespace Go.Proofs.YtpleaopefngafaaDoor
set_option maxRecDepth 8000
open Go.RowKit

set_option maxHeartbeats 800000 in
theorem mark_any (c : UInt8) (w : World) :
    Calls Tryd.prog 39 #[B c] w fun e w' => e = .returned (.string (S (Xm.mark c))) ∧ w = w' := by
  have HR := Lib.hid (show Xm.mark c = if c = 38 then Xm.wAmp else if c = 60 then Xm.wLt else if c = 62 then Xm.wGt else if c = 34 then Xm.wQuot else if c = 39 then Xm.wApos else [] from rfl)
  by_cases h0 : c = 38
  · have HV := Lib.hid (show Xm.mark c = Xm.wAmp by rw [HR.out, if_pos h0])
    have k0 : ((c.toNat : Int) == 38) = true := by rw [h0]; rfl
    clear h0
    go_enter Tryd.func39, Tryd.ntmps39
    go_wp2
    go_ret
    exact ⟨by rw [HV.out]; rfl, rfl⟩
  have k0 := u8_ne (n := 38) 38 rfl h0
  by_cases h1 : c = 60
  · have HV := Lib.hid (show Xm.mark c = Xm.wLt by rw [HR.out, if_neg h0, if_pos h1])
    have k1 : ((c.toNat : Int) == 60) = true := by rw [h1]; rfl
    clear h0 h1
    go_enter Tryd.func39, Tryd.ntmps39
    go_wp2
    go_ret
    exact ⟨by rw [HV.out]; rfl, rfl⟩
  have k1 := u8_ne (n := 60) 60 rfl h1
  by_cases h2 : c = 62
  · have HV := Lib.hid (show Xm.mark c = Xm.wGt by rw [HR.out, if_neg h0, if_neg h1, if_pos h2])
    have k2 : ((c.toNat : Int) == 62) = true := by rw [h2]; rfl
    clear h0 h1 h2
    go_enter Tryd.func39, Tryd.ntmps39
    go_wp2
    go_ret
    exact ⟨by rw [HV.out]; rfl, rfl⟩
  have k2 := u8_ne (n := 62) 62 rfl h2
  by_cases h3 : c = 34
  · have HV := Lib.hid (show Xm.mark c = Xm.wQuot by rw [HR.out, if_neg h0, if_neg h1, if_neg h2, if_pos h3])
    have k3 : ((c.toNat : Int) == 34) = true := by rw [h3]; rfl
    clear h0 h1 h2 h3
    go_enter Tryd.func39, Tryd.ntmps39
    go_wp2
    go_ret
    exact ⟨by rw [HV.out]; rfl, rfl⟩
  have k3 := u8_ne (n := 34) 34 rfl h3
  by_cases h4 : c = 39
  · have HV := Lib.hid (show Xm.mark c = Xm.wApos by rw [HR.out, if_neg h0, if_neg h1, if_neg h2, if_neg h3, if_pos h4])
    have k4 : ((c.toNat : Int) == 39) = true := by rw [h4]; rfl
    clear h0 h1 h2 h3 h4
    go_enter Tryd.func39, Tryd.ntmps39
    go_wp2
    go_ret
    exact ⟨by rw [HV.out]; rfl, rfl⟩
  have k4 := u8_ne (n := 39) 39 rfl h4
  have HV := Lib.hid (show Xm.mark c = [] by rw [HR.out, if_neg h0, if_neg h1, if_neg h2, if_neg h3, if_neg h4])
  clear h0 h1 h2 h3 h4
  go_enter Tryd.func39, Tryd.ntmps39
  go_wp2
  go_ret
  exact ⟨by rw [HV.out]; rfl, rfl⟩

theorem esc1_len (c : UInt8) : (Xm.esc1 c).length ≤ 6 := by
  have := Xm.byte_all (P := fun c => decide ((Xm.esc1 c).length ≤ 6)) (by decide +kernel) c
  exact of_decide_eq_true this
theorem escape_len : ∀ l : List UInt8, (Xm.escape l).length ≤ 6 * l.length
  | [] => by simp [Xm.escape]
  | c :: l => by
    have ih := escape_len l
    have h1 := esc1_len c
    have e : Xm.escape (c :: l) = Xm.esc1 c ++ Xm.escape l := rfl
    rw [e, List.length_append, List.length_cons]
    omega
end Go.Proofs.YtpleaopefngafaaDoor
