/- A URL that came in by value: from its reading to its fields. No condition. -/
import Derived.Test.YtndimjkdmhhohaaDoorTellsUWalk
import Derived.Test.YtndimjkdmhhohaaDoorLaidU
import Derived.Lib.SmallJoins
import Derived.Carry
namespace Go.Proofs.YtndimjkdmhhohaaDoor
set_option maxRecDepth 8000
open Go.ChangeShapes Go.WideShapes Go.ChangeAt Go.WideMaps Go.WideElems Go.RowKit

theorem Tryd.cellsU : Tryd.prog.cellsOf 24 = 6 := by kernel_rfl
theorem Tryd.cellsStr : Tryd.prog.cellsOf 9 = 1 := by kernel_rfl
theorem Tryd.cellsInt : Tryd.prog.cellsOf 3 = 1 := by kernel_rfl
theorem Tryd.cellsBool2 : Tryd.prog.cellsOf 4 = 1 := by kernel_rfl
theorem array6 {α : Type} {cs : Array α} (h : cs.size = 6) : ∃ c0 c1 c2 c3 c4 c5, cs = #[c0, c1, c2, c3, c4, c5] := by
  obtain ⟨l⟩ := cs
  match l, h with
  | [c0, c1, c2, c3, c4, c5], _ => exact ⟨c0, c1, c2, c3, c4, c5, rfl⟩

theorem open_url {H : Type} {enc : TypeId × Value → H} {W : World} {base0 b0 : Nat} {sp : Nat → Bool} {held : Bool} {r : Reach} {v : Value} {d : DataW H} {p : List MemPlace}
    (hv : Value.okWide Tryd.prog W r b0 24 v) (h : DataW.Trod enc Tryd.prog W base0 sp held 24 v d p) :
    ∃ (sc ho pa qu : ByteArray) (po : Int) (ak : Bool), v = .agg #[.string sc, .string ho, .int .i64 po, .string pa, .string qu, .bool ak] ∧ po ≤ 9223372036854775807 := by
  obtain ⟨cs, rfl, hsz⟩ := okWide_struct Tryd.underlying24 hv
  obtain ⟨c0, c1, c2, c3, c4, c5, rfl⟩ := array6 (hsz.trans Tryd.cellsU)
  obtain ⟨fuel, hf⟩ := h
  obtain ⟨xs, n, _, _, _, hxl, hx⟩ := DataW.trod_struct Tryd.underlying24 hf
  have h0 := hx 0 _ rfl
  have h1 := hx 1 _ rfl
  have h2 := hx 2 _ rfl
  have h3 := hx 3 _ rfl
  have h4 := hx 4 _ rfl
  have h5 := hx 5 _ rfl
  simp [Value.cells, Tryd.cellsStr, Tryd.cellsInt, Tryd.cellsBool2] at h0 h1 h2 h3 h4 h5
  have hl : xs.length = 6 := hxl
  rw [List.getElem?_eq_getElem (by omega)] at h0 h1 h2 h3 h4 h5
  obtain ⟨s0, e0, _, _⟩ := DataW.trod_string Tryd.underlying9 h0
  obtain ⟨s1, e1, _, _⟩ := DataW.trod_string Tryd.underlying9 h1
  obtain ⟨z2, e2, _, hw⟩ := DataW.trod_int Tryd.underlying3 h2
  obtain ⟨s3, e3, _, _⟩ := DataW.trod_string Tryd.underlying9 h3
  obtain ⟨s4, e4, _, _⟩ := DataW.trod_string Tryd.underlying9 h4
  obtain ⟨b5, e5, _⟩ := DataW.trod_bool Tryd.underlying4 h5
  simp only [List.cons.injEq, and_true] at e0 e1 e2 e3 e4 e5
  subst e0 e1 e2 e3 e4 e5
  refine ⟨s0, s1, s3, s4, z2, b5, rfl, ?_⟩
  have e1 : IntKind.i64.max = 9223372036854775807 := by decide
  simp [Lit.wf] at hw
  omega
end Go.Proofs.YtndimjkdmhhohaaDoor
