/- An element that came in as an argument, and a world that meets the row's premises. No condition. -/
import Derived.Test.YtpleaopefngafaaDoorXmArg
import Derived.Test.YtpleaopefngafaaDoorLaidX
import Derived.Deep.DeepHandedRow
namespace Go.Proofs.YtpleaopefngafaaDoor
set_option maxRecDepth 8000
open Go.ChangeShapes Go.WideShapes Go.ChangeAt Go.WideMaps Go.WideElems Go.RowKit

theorem open_nodeV {H : Type} {enc : TypeId × Value → H} {W : World} {base0 b0 : Nat} {held : Bool} {r : Reach} {v : Value} {d : DataW H} {p : List MemPlace}
    (hv : Value.okWide Tryd.prog W r b0 26 v) (h : DataW.Trod enc Tryd.prog W base0 (fun _ => true) held 26 v d p) :
    ∃ (n : Xm.N) (sn st : ByteArray) (A K : Option Addr) (na ca nk ck : Nat), v = .agg #[.string sn, .slice A na ca, .string st, .slice K nk ck] ∧ Tr W W.heap.size n (.agg #[.string sn, .slice A na ca, .string st, .slice K nk ck]) ∧ (Xm.wr n).length ≤ 6 * Rows.uptoBulk d := by
  obtain ⟨cs, rfl, hsz⟩ := okWide_struct Tryd.underlying26 hv
  obtain ⟨fuel, hf⟩ := h
  obtain ⟨n, hn1, hn2⟩ := open_node _ fuel cs.toList (d, p) (Nat.le_refl _) (by rw [Array.length_toList, hsz]; exact Tryd.cellsNode) hf
  obtain ⟨A, ca, K, ck, hv2, _⟩ := hn1.form
  rw [hv2] at hn1
  have e : (Value.agg cs) = .agg cs.toList.toArray := by simp
  rw [e, hv2]
  exact ⟨n, _, _, A, K, _, ca, _, ck, rfl, hn1, hn2⟩
theorem upto_bound {H : Type} {l : List (DataW H)} (h : Rows.uptoSmall H l = true) : Rows.uptoBulkAll l ≤ 1048576 := of_decide_eq_true h

theorem witness_row3 {H : Type} {enc : TypeId × Value → H} {os : Os} {f : FuncId} {fn : Func} {s : OpenSpec} (args : Array Value)
    (hok : Input.okWideB Tryd.checked.prog ((World.laidAll Tryd.prog os laid3).forCall (fun _ _ => 0) ⟨#[], args, []⟩) f ⟨#[], args, []⟩ = true)
    (hrow : s.preRow enc Tryd.checked.prog fn [] false laid3 ((World.laidAll Tryd.prog os laid3).forCall (fun _ _ => 0) ⟨#[], args, []⟩).memory args) :
    ∃ (w : World) (tape : Tape) (i : Input), w.os = os ∧ (w.forCall tape i).Shaped Tryd.checked.prog ∧ i.vars = [] ∧ Input.okWide Tryd.checked.prog (w.forCall tape i) .any w.heap.size f i ∧
      s.preRow enc Tryd.checked.prog fn [] false laid3 (w.forCall tape i).memory i.args ∧ ({} : Assume).holds Tryd.checked.prog (lone (Frame.enter Tryd.checked.prog f i.args .normal) [] (w.forCall tape i)) :=
  ⟨World.laidAll Tryd.prog os laid3, fun _ _ => 0, ⟨#[], args, []⟩, World.laidAll_os _ _ _, door_shaped3 os, (Input.okWide_of_okWideB (base := 0) hok).1, (Input.okWide_of_okWideB hok).2, hrow, by
    simp only [Assume.holds]
    exact ⟨by simp, by simp, fun _ => Modest.zero, by simp, by simp⟩⟩
end Go.Proofs.YtpleaopefngafaaDoor
