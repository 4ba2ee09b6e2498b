/- From what the statements list of the table of digits to its cells, and a world that meets it; no condition. -/
import Derived.Test.YtlibjaggbhmkkaaDoorWalkA
import Derived.ProofKit
import Derived.LaidMore
import Derived.OpenShut
import Derived.Stop.Joined
import Derived.Lib.LaidTab
namespace Go.Proofs.YtlibjaggbhmkkaaDoor
open Go.ChangeShapes Go.WideShapes Go.ChangeAt Go.WideMaps Go.WideElems Go.RowKit

theorem Tryd.own : ownKnob Tryd.prog.godebug = none := by kernel_rfl
theorem Tryd.laidOut : laidOutB Tryd.prog = true := by kernel_rfl
theorem Tryd.gDigits : Tryd.prog.globalNamed "matricula/pct.digits" = some 0 := by kernel_rfl
theorem Tryd.tDigits : (Tryd.prog.globals[0]?).map (·.type) = some 68 := by kernel_rfl
theorem Tryd.cellsByte : Tryd.prog.cellsOf 5 = 1 := by kernel_rfl
theorem Tryd.cellsDigits : Tryd.prog.cellsOf 68 = 22 := by kernel_rfl

abbrev laid1 : List (String × DataW Unit) := [("matricula/pct.digits", Rows.laid_matricula_pct_digits)]
def digInts : List Int := Pct.digs.map fun (n : Nat) => (n : Int)
theorem laid_tab : (Rows.laid_matricula_pct_digits : DataW Unit) = Lib.tabData .u8 digInts := rfl

theorem digs_of_laid {W : World} (h : laidMetH Tryd.prog laid1 W) : Digs W := by
  rw [MakeChecks.laidMetH_plain _ _ _ (by kernel_rfl)] at h
  have h2 : laidMet Tryd.prog [("matricula/pct.digits", Lib.tabData .u8 digInts)] W := h
  have ht : Lib.TabIs Tryd.prog W "matricula/pct.digits" .u8 digInts := Lib.tabIs_of_head Tryd.gDigits Tryd.tDigits Tryd.underlying68 Tryd.underlying5 Tryd.cellsByte Tryd.cellsDigits h2
  intro j v hv
  have hj : j < 22 := by
    have := (List.getElem?_eq_some_iff.1 hv).1
    exact this
  have hc := ht.cell Tryd.gDigits j hj
  rw [digs_at j hj] at hv
  obtain rfl := Option.some.inj hv
  rw [Nat.zero_add, hc]
  have e : digInts.getD j 0 = (Pct.dgt j : Int) := by
    unfold digInts Pct.dgt
    have hl : j < Pct.digs.length := hj
    simp [List.getD, List.getElem?_eq_getElem hl]
  rw [e]

theorem door_met (os : Os) (args : Array Value) : laidMetH Tryd.prog laid1 ((World.doorLaid Tryd.prog 400 os).forCall (fun _ _ => 0) ⟨#[], args, []⟩).memory :=
  laidMetH_of_parts3 (fuel := 8) (laidMet_of_run' 8 (by kernel_rfl) (by kernel_rfl)) (by kernel_rfl) (by kernel_rfl)
end Go.Proofs.YtlibjaggbhmkkaaDoor
