/- From what the statements on reading responses list of package-level variables, and from the shape of their first world, to what the calls read of them; a world that meets it; no condition. -/
import Derived.Test.YtehgigfngelkjaaDoorLaidP
import Derived.Test.YtehgigfngelkjaaDoorEm
import Derived.LaidLaws
namespace Go.Proofs.YtehgigfngelkjaaDoor
set_option maxRecDepth 8000
open Go.ChangeShapes Go.WideShapes Go.ChangeAt Go.WideMaps Go.WideElems Go.RowKit

abbrev laid7 : List (String × DataW Unit) := [("math/bits.deBruijn32tab", Rows.laid_math_bits_deBruijn32tab), ("math/bits.deBruijn64tab", Rows.laid_math_bits_deBruijn64tab), ("internal/strconv.uint64pow10", Rows.laid_internal_strconv_uint64pow10), ("unicode/utf8.acceptRanges", Rows.laid_unicode_utf8_acceptRanges), ("strconv.ErrRange", Rows.laid_strconv_ErrRange), ("strconv.ErrSyntax", Rows.laid_strconv_ErrSyntax), ("unicode/utf8.first", Rows.laid_unicode_utf8_first)]
theorem Tryd.gRange : Tryd.prog.globalNamed "strconv.ErrRange" = some 5 := by kernel_rfl
theorem Tryd.tRange : (Tryd.prog.globals[5]?).map (·.type) = some 59 := by kernel_rfl
theorem Tryd.gSyntax : Tryd.prog.globalNamed "strconv.ErrSyntax" = some 4 := by kernel_rfl
theorem Tryd.tSyntax : (Tryd.prog.globals[4]?).map (·.type) = some 59 := by kernel_rfl
theorem Tryd.cellsErrS : Tryd.prog.cellsOf 146 = 1 := by kernel_rfl
theorem Tryd.cellsStr1 : Tryd.prog.cellsOf 9 = 1 := by kernel_rfl
theorem errStar : "*" ++ "errors.errorString" = "*errors.errorString" := by decide
theorem errRow (u : TypeId) (h : Tryd.prog.typeName? 3 u = some "*errors.errorString") : u = 144 :=
  typeName_ptr_named (nm := "errors.errorString") (by rw [errStar]; kernel_rfl) (by kernel_rfl) (by decide) u (by rw [errStar]; exact h)

theorem env_of_laid7 {W : World} (h : laidMetH Tryd.prog laid7 W) (hsh : W.ShapedOpen Tryd.prog) : EnvE W := by
  rw [MakeChecks.laidMetH_plain _ _ _ (by kernel_rfl)] at h
  have h2 : laidMet Tryd.prog [("internal/strconv.uint64pow10", Lib.tabData .u64 Lib.pow10Tab), ("unicode/utf8.acceptRanges", Rows.laid_unicode_utf8_acceptRanges), ("strconv.ErrRange", Rows.laid_strconv_ErrRange), ("strconv.ErrSyntax", Rows.laid_strconv_ErrSyntax), ("unicode/utf8.first", Rows.laid_unicode_utf8_first)] W := by
    rw [← laid_pow]
    exact h.tail.tail
  have hE := env_of_tab (Lib.tabIs_of_head Tryd.gPow Tryd.tPow Tryd.underlying116 Tryd.underlying101 Tryd.cellsU64 Tryd.cellsPow h2) hsh
  obtain ⟨a1, s1, hv1, _, _, _⟩ := laid_sentinel h2.tail.tail Tryd.gRange Tryd.tRange Tryd.underlying59 (fun u hu => errRow u hu) Tryd.underlying144 Tryd.underlying146 rfl rfl Tryd.underlying9 Tryd.cellsErrS Tryd.cellsStr1
  obtain ⟨a2, s2, hv2, _, _, _⟩ := laid_sentinel h2.tail.tail.tail Tryd.gSyntax Tryd.tSyntax Tryd.underlying59 (fun u hu => errRow u hu) Tryd.underlying144 Tryd.underlying146 rfl rfl Tryd.underlying9 Tryd.cellsErrS Tryd.cellsStr1
  have c1 : W.cell? ⟨5, 0, none⟩ = some (.iface 144 (.pointer (some a1))) := by simpa using World.var?_cell Tryd.gRange hv1 0
  have c2 : W.cell? ⟨4, 0, none⟩ = some (.iface 144 (.pointer (some a2))) := by simpa using World.var?_cell Tryd.gSyntax hv2 0
  exact ⟨hE, ⟨_, c2, .inr ⟨_, _, rfl⟩⟩, ⟨_, c1, .inr ⟨_, _, rfl⟩⟩, World.block_lt_of_cell? W _ c2, World.block_lt_of_cell? W _ c1⟩

set_option maxRecDepth 100000 in
theorem door_met7 (os : Os) (args : Array Value) : laidMetH Tryd.prog laid7 ((World.laidAll Tryd.prog os laid7).forCall (fun _ _ => 0) ⟨#[], args, []⟩).memory := by
  rw [MakeChecks.laidMetH_plain _ _ _ (by kernel_rfl)]
  exact laidMet_laidAll _ (by kernel_rfl) (by kernel_rfl)
set_option maxRecDepth 100000 in
theorem door_shaped7 (os : Os) : (World.laidAll Tryd.prog os laid7).Shaped Tryd.prog := World.shaped_of_ZipB (by kernel_rfl) (by kernel_rfl)
end Go.Proofs.YtehgigfngelkjaaDoor
