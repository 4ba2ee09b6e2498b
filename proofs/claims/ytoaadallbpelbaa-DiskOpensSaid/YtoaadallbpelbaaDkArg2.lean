/- Bytes that came in as no slice have no room. No condition. -/
import Derived.Test.YtoaadallbpelbaaDkArgs
namespace Go.Proofs.Ytoaadallbpelbaa
set_option maxRecDepth 8000
open Go.ChangeShapes Go.WideShapes Go.ChangeAt Go.WideMaps Go.WideElems Go.RowKit
theorem bytes_nil {H : Type} {enc : TypeId × Value → H} {W : World} {base0 : Nat} {sp : Nat → Bool} {held : Bool} {fuel : Nat} {A : Option Addr} {n c : Nat} {x : DataW H × List MemPlace}
    (hf : DataW.trod enc Try.prog W base0 sp held fuel 29 [.slice A n c] = some x) : A = none → c = 0 := by
  rintro rfl
  rcases open_ints Try.underlying29 Try.underlying5 Try.cellsByte hf with ⟨hcs, _⟩ | ⟨a, len, cap, zs, hcs, _⟩
  · simp only [List.cons.injEq, Value.slice.injEq, and_true] at hcs
    exact hcs.2.2
  · simp at hcs
end Go.Proofs.Ytoaadallbpelbaa
