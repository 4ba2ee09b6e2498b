/- Slices of bytes and of bools that came in: from their readings to their cells. No condition. -/
import Derived.Test.YtndimjkdmhhohaaDoorCasesWalk
import Derived.Test.YtndimjkdmhhohaaDoorLaidU
import Derived.ChangeSlices
import Derived.Deep.Grids
import Derived.Carry
namespace Go.Proofs.YtndimjkdmhhohaaDoor
set_option maxRecDepth 8000
open Go.ChangeShapes Go.WideShapes Go.ChangeAt Go.WideMaps Go.WideElems Go.RowKit

theorem Tryd.cellsBool : Tryd.prog.cellsOf 4 = 1 := by kernel_rfl

theorem open_bytes {H : Type} {enc : TypeId × Value → H} {W : World} {base0 : Nat} {sp : Nat → Bool} {held : Bool} {fuel : Nat} {a0 : Option Addr} {len cap : Nat} {x : DataW H × List MemPlace}
    (hf : DataW.trod enc Tryd.prog W base0 sp held fuel 43 [.slice a0 len cap] = some x) :
    ∃ l : List UInt8, l.length = len ∧ BCells W W.heap.size a0 l ∧ len ≤ 9223372036854775807 := by
  rcases open_ints Tryd.underlying43 Tryd.underlying5 Tryd.cellsByte hf with ⟨hcs, _⟩ | ⟨a, len', cap', zs, hcs, _, hlc, hcm, hzl, _, hx, hwf⟩
  · simp only [List.cons.injEq, Value.slice.injEq, and_true] at hcs
    obtain ⟨rfl, rfl, rfl⟩ := hcs
    exact ⟨[], rfl, fun h => absurd h (by simp), by omega⟩
  · simp only [List.cons.injEq, Value.slice.injEq, and_true] at hcs
    obtain ⟨rfl, rfl, rfl⟩ := hcs
    have hle : len ≤ zs.length := by rw [hzl]; split <;> omega
    refine ⟨(zs.take len).map fun z => UInt8.ofNat z.toNat, by simp; omega, fun hn => ?_, by unfold maxLen at hcm; omega⟩
    have hn' : 0 < len := by simp at hn; omega
    obtain ⟨b, off, spot⟩ := a
    have hspot : spot = none := by simpa [Addr.add] using World.cell?_spot (hx 0 (by omega))
    subst hspot
    have hadd : ∀ j, (⟨b, off, none⟩ : Addr).add j = ⟨b, off + j, none⟩ := fun j => Addr.add_mid b off j
    refine ⟨b, off, rfl, ?_, fun k hk => ?_⟩
    · have := World.block_lt_of_cell? W _ (hx 0 (by omega))
      rw [hadd] at this
      exact this
    · have hk' : k < len := by simp at hk; omega
      have hkz : k < zs.length := by omega
      have h2 := hx k hkz
      rw [hadd] at h2
      rw [h2]
      have hg : zs.getD k 0 = zs[k] := by simp [List.getD, hkz]
      have hw := hwf zs[k] (List.getElem_mem hkz)
      rw [hg]
      simp only [List.getElem_map, List.getElem_take]
      unfold B
      have hr : 0 ≤ zs[k] ∧ zs[k] < 256 := by
        have e1 : IntKind.u8.min = 0 := by decide
        have e2 : IntKind.u8.max = 255 := by decide
        simp [Lit.wf] at hw
        omega
      have : ((UInt8.ofNat zs[k].toNat).toNat : Int) = zs[k] := by
        rw [UInt8.toNat_ofNat']
        omega
      rw [this]

theorem open_bools' {H : Type} {enc : TypeId × Value → H} {W : World} {base0 : Nat} {held : Bool} {fuel : Nat} {a0 : Option Addr} {len cap : Nat} {x : DataW H × List MemPlace}
    (hf : DataW.trod enc Tryd.prog W base0 (fun _ => true) held fuel 44 [.slice a0 len cap] = some x) :
    ∃ l : List Bool, l.length = len ∧ LCells W W.heap.size a0 l ∧ len ≤ 9223372036854775807 := by
  rcases Deep.open_bools Tryd.underlying44 Tryd.underlying4 Tryd.cellsBool hf with ⟨hcs, _⟩ | ⟨a, len', cap', Bf, hcs, _, hlc, hcm, _, hx⟩
  · simp only [List.cons.injEq, Value.slice.injEq, and_true] at hcs
    obtain ⟨rfl, rfl, rfl⟩ := hcs
    exact ⟨[], rfl, fun h => absurd h (by simp), by omega⟩
  · simp only [List.cons.injEq, Value.slice.injEq, and_true] at hcs
    obtain ⟨rfl, rfl, rfl⟩ := hcs
    refine ⟨(List.range len).map Bf, by simp, fun hn => ?_, by unfold maxLen at hcm; omega⟩
    have hn' : 0 < len := by simpa using hn
    obtain ⟨b, off, spot⟩ := a
    have hspot : spot = none := by simpa [Addr.add] using World.cell?_spot (hx 0 (by omega))
    subst hspot
    have hadd : ∀ j, (⟨b, off, none⟩ : Addr).add j = ⟨b, off + j, none⟩ := fun j => Addr.add_mid b off j
    refine ⟨b, off, rfl, ?_, fun k hk => ?_⟩
    · have := World.block_lt_of_cell? W _ (hx 0 (by omega))
      rw [hadd] at this
      exact this
    · have hk' : k < len := by simpa using hk
      have h2 := hx k (by omega)
      rw [hadd] at h2
      simpa using h2
end Go.Proofs.YtndimjkdmhhohaaDoor
