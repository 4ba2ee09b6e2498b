/- What the statements' example of package record answers: true. -/
import Derived.Test.YtfeaonbeklmfgaaGreatDoorRkE
import Derived.Test.YtfeaonbeklmfgaaGreatDoorTkH
namespace Go.Proofs.YtfeaonbeklmfgaaGreatDoor
set_option maxRecDepth 8000
open Go.RowKit

def exR : Rk.R := ⟨1, Tk.name 1 7, [], [117], [], [], 5, 5, 0, false⟩
theorem tell_nil : Tk.tell [] = (0, 0, false) := Tk.tell_none fun k n h => by
  have := h.eq
  unfold Tk.name at this
  have h2 := congrArg List.length this
  simp at h2
theorem exR_ok : Rk.Ok exR := by
  have h : Tk.tell exR.name = (1, 7, true) := Tk.tell_name (k := 1) (n := 7) ⟨by omega, by omega, by omega, rfl⟩
  refine ⟨by rw [h], by rw [h]; rfl, .inr rfl, ?_, by decide, by decide, by decide, by decide, by decide, by decide, by decide, by decide⟩
  show Rk.comes 1 (Tk.tell []).1 = true
  rw [tell_nil]
  rfl
end Go.Proofs.YtfeaonbeklmfgaaGreatDoor
