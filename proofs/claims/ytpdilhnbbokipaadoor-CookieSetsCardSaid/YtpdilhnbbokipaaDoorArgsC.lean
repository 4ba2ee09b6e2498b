/- Slices of pairs that came in: from their readings to their cells. No condition. -/
import Derived.Test.YtpdilhnbbokipaaDoorLaidC
import Derived.Deep.SlicePairs
import Derived.Carry
import Derived.Lib.SmallJoins
namespace Go.Proofs.YtpdilhnbbokipaaDoor
set_option maxRecDepth 8000
open Go.ChangeShapes Go.WideShapes Go.ChangeAt Go.WideMaps Go.WideElems Go.RowKit

theorem Tryd.cellsPair : Tryd.prog.cellsOf 41 = 2 := by kernel_rfl
theorem Tryd.cellsString : Tryd.prog.cellsOf 9 = 1 := by kernel_rfl
theorem open_pairs {H : Type} {enc : TypeId × Value → H} {W : World} {base0 : Nat} {sp : Nat → Bool} {held : Bool} {fuel : Nat} {a0 : Option Addr} {len cap : Nat} {x : DataW H × List MemPlace}
    (hf : DataW.trod enc Tryd.prog W base0 sp held fuel 22 [.slice a0 len cap] = some x) :
    ∃ l : List Pct.PairL, l.length = len ∧ PCells W W.heap.size a0 l ∧ len ≤ 9223372036854775807 := by
  rcases Deep.open_slice_pairs Tryd.underlying22 Tryd.underlying41 Tryd.cellsPair rfl rfl Tryd.cellsString Tryd.cellsString hf with ⟨hcs, _⟩ | ⟨a, len', cap', m, n, V0, V1, D0, D1, P0, P1, hcs, _, hlc, hcm, hmm, _, hx⟩
  · simp only [List.cons.injEq, Value.slice.injEq, and_true] at hcs
    obtain ⟨rfl, rfl, rfl⟩ := hcs
    exact ⟨[], rfl, fun h => absurd h (by simp), by omega⟩
  · simp only [List.cons.injEq, Value.slice.injEq, and_true] at hcs
    obtain ⟨rfl, rfl, rfl⟩ := hcs
    have hle : len ≤ m := by rw [hmm]; split <;> omega
    have hs : ∀ i, i < len → ∃ q : Pct.PairL, W.cell? (a.add (i * 2)) = some (.string (S q.1)) ∧ W.cell? (a.add (i * 2 + 1)) = some (.string (S q.2)) := by
      intro i hi
      obtain ⟨c0, c1, t0, t1⟩ := hx i (by omega)
      obtain ⟨s0, e0, _, _⟩ := DataW.trod_string Tryd.underlying9 t0
      obtain ⟨s1, e1, _, _⟩ := DataW.trod_string Tryd.underlying9 t1
      simp only [List.cons.injEq, and_true] at e0 e1
      refine ⟨(s0.data.toList, s1.data.toList), ?_, ?_⟩
      · rw [c0, e0]; rfl
      · rw [c1, e1]; rfl
    obtain ⟨q, hq⟩ := Deep.choose_lt (α := Pct.PairL) hs
    refine ⟨(List.range len).map q, by simp, fun hn => ?_, by unfold maxLen at hcm; omega⟩
    have hn' : 0 < len := by simpa using hn
    obtain ⟨b, off, spot⟩ := a
    have hspot : spot = none := by simpa [Addr.add] using World.cell?_spot (hq 0 hn').1
    subst hspot
    have hadd : ∀ j, (⟨b, off, none⟩ : Addr).add j = ⟨b, off + j, none⟩ := fun j => Addr.add_mid b off j
    refine ⟨b, off, rfl, ?_, fun k hk => ?_⟩
    · have := World.block_lt_of_cell? W _ (hq 0 hn').1
      rw [hadd] at this
      exact this
    · have hk' : k < len := by simpa using hk
      have h2 := hq k hk'
      rw [hadd, hadd] at h2
      simp only [List.getElem_map, List.getElem_range]
      exact ⟨h2.1, by rw [Nat.add_assoc]; exact h2.2⟩
end Go.Proofs.YtpdilhnbbokipaaDoor
