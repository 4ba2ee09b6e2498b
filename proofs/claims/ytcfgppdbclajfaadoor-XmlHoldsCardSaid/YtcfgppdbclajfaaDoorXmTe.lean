/- XmlTexts, for any text: walked whole. -/
import Derived.Test.YtcfgppdbclajfaaDoorXmAk
import Derived.Test.YtcfgppdbclajfaaDoorXmUw
namespace Go.Proofs.YtcfgppdbclajfaaDoor
set_option maxRecDepth 8000
open Go.RowKit

set_option maxHeartbeats 1600000 in
theorem xmlTexts_any (l : List UInt8) (w : World) (hE : EnvX w) :
    Calls Tryd.prog 3 #[.string (S l)] w fun e w' => e = .returned (.bool true) ∧ Below w.heap.size w w' := by
  have HAW : Hid (∀ w' : World, EnvX w' → Calls Tryd.prog 8 #[] w' fun e w'' => e = .returned (.bool true) ∧ Below w'.heap.size w' w'') := Lib.hid (fun w' h => awake_any w' h)
  have hsz : (S l).size = l.length := rfl
  by_cases hlong : 300 < l.length
  · have h1 : (300 : Int) < (l.length : Int) := by omega
    go_enter Tryd.func3, Tryd.ntmps3
    go_wp2_with fail
    refine (HAW.out _ hE).mono ?_
    rintro e w1 ⟨rfl, hb1⟩
    go_wp2_with fail
    go_ret
    exact ⟨rfl, hb1⟩
  · have h1 : ¬ (300 : Int) < (l.length : Int) := by omega
    have HU : Hid (∀ w' : World, EnvX w' → Calls Tryd.prog 9 #[.string (S l)] w' fun e w'' => e = toldUn (Xm.unescape l) ∧ Below w'.heap.size w' w'') := Lib.hid (fun w' h => unescape_any l w' h (by omega))
    have HRU : Hid (∀ w' : World, Calls Tryd.prog 10 #[.string (S l)] w' fun e w'' => e = toldUn (Xm.unescape l) ∧ Below w'.heap.size w' w'') := Lib.hid (fun w' => refUnescape_any l w' (by omega))
    have HEs : Hid (∀ w' : World, EnvX w' → Calls Tryd.prog 11 #[.string (S l)] w' fun e w'' => e = .returned (.string (S (Xm.escape l))) ∧ Below w'.heap.size w' w'') := Lib.hid (fun w' h => escape_any l w' h (by omega))
    have HRE : Hid (∀ w' : World, Calls Tryd.prog 12 #[.string (S l)] w' fun e w'' => e = .returned (.string (S (Xm.escape l))) ∧ w' = w'') := Lib.hid (fun w' => refEscape_any l w' (by omega))
    obtain ⟨a, c, ha⟩ : ∃ a : List UInt8, ∃ c : Int, toldUn (Xm.unescape l) = .returned (.tuple #[.string (S a), .int .i64 c]) := by
      cases Xm.unescape l with
      | none => exact ⟨[], 10, rfl⟩
      | some p => exact ⟨p, 0, rfl⟩
    rw [ha] at HU HRU
    generalize Xm.escape l = x at HEs HRE
    clear ha
    go_enter Tryd.func3, Tryd.ntmps3
    go_wp2_with fail
    refine (HAW.out _ hE).mono ?_
    rintro e w1 ⟨rfl, hb1⟩
    have hE1 := hE.next hb1
    go_wp2_with fail
    refine (HU.out _ hE1).mono ?_
    rintro e w2 ⟨rfl, hb2⟩
    have hE2 := hE1.next hb2
    have hbw2 := hb1.trans (hb2.mono hb1.size)
    go_wp2_with fail
    refine (HRU.out _).mono ?_
    rintro e w3 ⟨rfl, hb3⟩
    have hE3 := hE2.next hb3
    have hbw3 := hbw2.trans (hb3.mono hbw2.size)
    clear hb1 hb2 hb3 hbw2 hE1 hE2 hE
    go_wp2_with fail
    go_outline
    refine (HEs.out _ hE3).mono ?_
    rintro e w4 ⟨rfl, hb4⟩
    have hbw4 := hbw3.trans (hb4.mono hbw3.size)
    go_wp2_with fail
    refine (HRE.out _).mono ?_
    rintro e w' ⟨rfl, rfl⟩
    go_wp2_with fail
    go_ret
    exact ⟨rfl, hbw4⟩
end Go.Proofs.YtcfgppdbclajfaaDoor
