/- For the upto cards of stage 9: a world that meets the rows, the bulk, a cut that is any number of 16 bits. -/
import Derived.Test.YtocfppopnoegmaaDoorFrU
import Derived.Test.YtocfppopnoegmaaDoorFrCu
import Derived.Test.YtocfppopnoegmaaDoorCrLaid
import Derived.Deep.DeepHandedRow
namespace Go.Proofs.YtocfppopnoegmaaDoor
set_option maxRecDepth 8000
open Go.ChangeShapes Go.WideShapes Go.ChangeAt Go.WideMaps Go.WideElems Go.RowKit
theorem upto_bound {H : Type} {l : List (DataW H)} (h : Rows.uptoSmall H l = true) : Rows.uptoBulkAll l ≤ 1048576 := of_decide_eq_true h
theorem witness_rowH {H : Type} {enc : TypeId × Value → H} {os : Os} {f : FuncId} {fn : Func} {s : OpenSpec} (args : Array Value)
    (hok : Input.okWideB Tryd.checked.prog ((World.doorLaid Tryd.prog 400 os).forCall (fun _ _ => 0) ⟨#[], args, []⟩) f ⟨#[], args, []⟩ = true)
    (hrow : s.preRow enc Tryd.checked.prog fn [] false laidH ((World.doorLaid Tryd.prog 400 os).forCall (fun _ _ => 0) ⟨#[], args, []⟩).memory args) :
    ∃ (w : World) (tape : Tape) (i : Input), w.os = os ∧ (w.forCall tape i).Shaped Tryd.checked.prog ∧ i.vars = [] ∧ Input.okWide Tryd.checked.prog (w.forCall tape i) .any w.heap.size f i ∧
      s.preRow enc Tryd.checked.prog fn [] false laidH (w.forCall tape i).memory i.args ∧ ({} : Assume).holds Tryd.checked.prog (lone (Frame.enter Tryd.checked.prog f i.args .normal) [] (w.forCall tape i)) :=
  ⟨World.doorLaid Tryd.prog 400 os, fun _ _ => 0, ⟨#[], args, []⟩, rfl, World.shaped_of_RefB (by kernel_rfl) (by kernel_rfl), (Input.okWide_of_okWideB (base := 0) hok).1, (Input.okWide_of_okWideB hok).2, hrow, by
    simp only [Assume.holds]
    exact ⟨by simp, by simp, fun _ => Modest.zero, by simp, by simp⟩⟩
theorem ot_of_bulk {l : List (List UInt8)} {B : Nat} (h : Fr.total l ≤ 7 * B) (hB : B ≤ 1048576) : Fr.okTotal l ≤ 16777216 := by
  have := Fr.okTotal_le l
  omega
theorem frameCuts_int {Env : World → Prop} (hF : FrOk Env) (A1 : Option Addr) (c1 n1 : Nat) (x : Int) (hx : (Lit.int .u16 x).wf = true) (l : List (List UInt8)) (w : World) (hE : Env w)
    (hn1 : l.length = n1) (hl : LC w w.heap.size A1 l) (hc1 : n1 ≤ c1) (hm1 : c1 ≤ 9223372036854775807) (hq : ∀ b ∈ l, b.length ≤ 9223372036854775807) (hot : Fr.okTotal l ≤ 16777216) :
    Calls Tryd.prog 5 #[.slice A1 n1 c1, .int .u16 x] w fun e w' => e = .returned (.bool true) ∧ Below w.heap.size w w' := by
  have hb : 0 ≤ x ∧ x < 65536 := by
    have e1 : IntKind.u16.min = 0 := by decide
    have e2 : IntKind.u16.max = 65535 := by decide
    simp [Lit.wf] at hx
    omega
  obtain ⟨q, rfl⟩ : ∃ q : Nat, x = (q : Int) := ⟨x.toNat, by omega⟩
  exact frameCuts_any hF A1 c1 n1 q l w hE (by omega) hn1 hl hc1 hm1 hq hot
end Go.Proofs.YtocfppopnoegmaaDoor
