/- Slices of numbers, texts and bools that came in as arguments, as lists. No condition. -/
import Derived.Test.YtihfpockmginfaaDoorLaidT
import Derived.Test.YtihfpockmginfaaDoorTkG
import Derived.ChangeSlices
import Derived.Deep.Grids
import Derived.Deep.Strs
namespace Go.Proofs.YtihfpockmginfaaDoor
set_option maxRecDepth 8000
open Go.ChangeShapes Go.WideShapes Go.ChangeAt Go.WideMaps Go.WideElems Go.RowKit

theorem Tryd.cellsU64 : Tryd.prog.cellsOf 22 = 1 := by kernel_rfl
theorem Tryd.cellsInt : Tryd.prog.cellsOf 3 = 1 := by kernel_rfl
theorem Tryd.cellsBool : Tryd.prog.cellsOf 4 = 1 := by kernel_rfl
/-- The cells of a slice of numbers. -/
def IC (k : IntKind) (w : World) (B : Nat) (A : Option Addr) (l : List Int) : Prop :=
  0 < l.length → ∃ b off, A = some ⟨b, off, none⟩ ∧ b < B ∧ ∀ j (h : j < l.length), w.cell? ⟨b, off + j, none⟩ = some (.int k l[j])
/-- The cells of a slice of bools. -/
def LCells (w : World) (B : Nat) (A : Option Addr) (l : List Bool) : Prop :=
  0 < l.length → ∃ b off, A = some ⟨b, off, none⟩ ∧ b < B ∧ ∀ j (h : j < l.length), w.cell? ⟨b, off + j, none⟩ = some (.bool l[j])
section
variable {H : Type} {enc : TypeId × Value → H} {W : World} {base0 : Nat} {held : Bool} {fuel : Nat} {a0 : Option Addr} {len cap : Nat} {x : DataW H × List MemPlace}
theorem open_ints_k {sp : Nat → Bool} {t e : TypeId} {k : IntKind} (ht : Tryd.prog.underlying t = some (.slice e)) (he : Tryd.prog.underlying e = some (.int k)) (hc : Tryd.prog.cellsOf e = 1)
    (hf : DataW.trod enc Tryd.prog W base0 sp held fuel t [.slice a0 len cap] = some x) :
    ∃ l : List Int, l.length = len ∧ IC k W W.heap.size a0 l ∧ ((∀ z ∈ l, (Lit.int k z).wf = true) ∧ len ≤ cap ∧ cap ≤ 9223372036854775807) := by
  rcases open_ints ht he hc hf with ⟨hcs, _⟩ | ⟨a, len', cap', zs, hcs, _, hlc, hcm, hzl, _, hx, hwf⟩
  · simp only [List.cons.injEq, Value.slice.injEq, and_true] at hcs
    obtain ⟨rfl, rfl, rfl⟩ := hcs
    exact ⟨[], rfl, fun h => absurd h (by simp), fun z hz => by simp at hz, by omega, by omega⟩
  · simp only [List.cons.injEq, Value.slice.injEq, and_true] at hcs
    obtain ⟨rfl, rfl, rfl⟩ := hcs
    have hle : len ≤ zs.length := by rw [hzl]; split <;> omega
    refine ⟨zs.take len, by simp; omega, fun hn => ?_, fun z hz => hwf z (List.mem_of_mem_take hz), hlc, by unfold maxLen at hcm; omega⟩
    have hn' : 0 < len := by simp at hn; omega
    obtain ⟨b, off, spot⟩ := a
    have hspot : spot = none := by simpa [Addr.add] using World.cell?_spot (hx 0 (by omega))
    subst hspot
    have hadd : ∀ j, (⟨b, off, none⟩ : Addr).add j = ⟨b, off + j, none⟩ := fun j => Addr.add_mid b off j
    refine ⟨b, off, rfl, ?_, fun k hk => ?_⟩
    · have := World.block_lt_of_cell? W _ (hx 0 (by omega))
      rw [hadd] at this
      exact this
    · have hk' : k < len := by simp at hk; omega
      have hkz : k < zs.length := by omega
      have h2 := hx k hkz
      rw [hadd] at h2
      rw [h2]
      simp [List.getD, hkz]
theorem open_bytes12 {sp : Nat → Bool} (hf : DataW.trod enc Tryd.prog W base0 sp held fuel 36 [.slice a0 len cap] = some x) :
    ∃ l : List Int, l.length = len ∧ IC .u8 W W.heap.size a0 l ∧ ((∀ z ∈ l, (Lit.int .u8 z).wf = true) ∧ len ≤ cap ∧ cap ≤ 9223372036854775807) := open_ints_k Tryd.underlying36 Tryd.underlying5 Tryd.cellsU8 hf
theorem open_u64s12 {sp : Nat → Bool} (hf : DataW.trod enc Tryd.prog W base0 sp held fuel 37 [.slice a0 len cap] = some x) :
    ∃ l : List Int, l.length = len ∧ IC .u64 W W.heap.size a0 l ∧ ((∀ z ∈ l, (Lit.int .u64 z).wf = true) ∧ len ≤ cap ∧ cap ≤ 9223372036854775807) := open_ints_k Tryd.underlying37 Tryd.underlying22 Tryd.cellsU64 hf
theorem open_ints12 {sp : Nat → Bool} (hf : DataW.trod enc Tryd.prog W base0 sp held fuel 39 [.slice a0 len cap] = some x) :
    ∃ l : List Int, l.length = len ∧ IC .i64 W W.heap.size a0 l ∧ ((∀ z ∈ l, (Lit.int .i64 z).wf = true) ∧ len ≤ cap ∧ cap ≤ 9223372036854775807) := open_ints_k Tryd.underlying39 Tryd.underlying3 Tryd.cellsInt hf
theorem open_bools12 (hf : DataW.trod enc Tryd.prog W base0 (fun _ => true) held fuel 40 [.slice a0 len cap] = some x) :
    ∃ l : List Bool, l.length = len ∧ LCells W W.heap.size a0 l ∧ len ≤ 9223372036854775807 := by
  rcases Deep.open_bools Tryd.underlying40 Tryd.underlying4 Tryd.cellsBool hf with ⟨hcs, _⟩ | ⟨a, len', cap', Bf, hcs, _, hlc, hcm, _, hx⟩
  · simp only [List.cons.injEq, Value.slice.injEq, and_true] at hcs
    obtain ⟨rfl, rfl, rfl⟩ := hcs
    exact ⟨[], rfl, fun h => absurd h (by simp), by omega⟩
  · simp only [List.cons.injEq, Value.slice.injEq, and_true] at hcs
    obtain ⟨rfl, rfl, rfl⟩ := hcs
    refine ⟨(List.range len).map Bf, by simp, fun hn => ?_, by unfold maxLen at hcm; omega⟩
    have hn' : 0 < len := by simpa using hn
    obtain ⟨b, off, spot⟩ := a
    have hspot : spot = none := by simpa [Addr.add] using World.cell?_spot (hx 0 (by omega))
    subst hspot
    have hadd : ∀ j, (⟨b, off, none⟩ : Addr).add j = ⟨b, off + j, none⟩ := fun j => Addr.add_mid b off j
    refine ⟨b, off, rfl, ?_, fun k hk => ?_⟩
    · have := World.block_lt_of_cell? W _ (hx 0 (by omega))
      rw [hadd] at this
      exact this
    · have hk' : k < len := by simpa using hk
      have h2 := hx k (by omega)
      rw [hadd] at h2
      simpa using h2
theorem open_strings12 {sp : Nat → Bool} (hf : DataW.trod enc Tryd.prog W base0 sp held fuel 32 [.slice a0 len cap] = some x) :
    ∃ l : List (List UInt8), l.length = len ∧ SCells W W.heap.size a0 l ∧ len ≤ cap := by
  rcases Deep.open_strs Tryd.underlying32 Tryd.underlying9 Tryd.cellsStr hf with ⟨hcs, _⟩ | ⟨a, len', cap', m, Sx, hcs, _, hlc, hcm, hmm, _, hx⟩
  · simp only [List.cons.injEq, Value.slice.injEq, and_true] at hcs
    obtain ⟨rfl, rfl, rfl⟩ := hcs
    exact ⟨[], rfl, fun h => absurd h (by simp), by omega⟩
  · simp only [List.cons.injEq, Value.slice.injEq, and_true] at hcs
    obtain ⟨rfl, rfl, rfl⟩ := hcs
    have hle : len ≤ m := by rw [hmm]; split <;> omega
    refine ⟨(List.range len).map fun i => (Sx i).data.toList, by simp, fun hn => ?_, hlc⟩
    have hn' : 0 < len := by simpa using hn
    obtain ⟨b, off, spot⟩ := a
    have hspot : spot = none := by simpa [Addr.add] using World.cell?_spot (hx 0 (by omega)).1
    subst hspot
    have hadd : ∀ j, (⟨b, off, none⟩ : Addr).add j = ⟨b, off + j, none⟩ := fun j => Addr.add_mid b off j
    refine ⟨b, off, rfl, ?_, fun k hk => ?_⟩
    · have := World.block_lt_of_cell? W _ (hx 0 (by omega)).1
      rw [hadd] at this
      exact this
    · have hk' : k < len := by simpa using hk
      have h2 := (hx k (by omega)).1
      rw [hadd] at h2
      simp only [List.getElem_map, List.getElem_range]
      exact h2
end
/-- The cells, in a later world. -/
theorem IC.at_ {k : IntKind} {w w' : World} {A : Option Addr} {l : List Int} (h : IC k w w.heap.size A l) (hb : Below w.heap.size w w') (j : Nat) (hj : j < l.length) : ∃ b off, A = some ⟨b, off, none⟩ ∧ b < w.heap.size ∧ w'.cell? ⟨b, off + j, none⟩ = some (.int k l[j]) := by
  obtain ⟨b, off, hA, hlt, hc⟩ := h (by omega)
  exact ⟨b, off, hA, hlt, (hb.cell (p := ⟨b, off + j, none⟩) hlt).trans (hc j hj)⟩
theorem SCells.at_ {w w' : World} {A : Option Addr} {l : List (List UInt8)} (h : SCells w w.heap.size A l) (hb : Below w.heap.size w w') (j : Nat) (hj : j < l.length) : ∃ b off, A = some ⟨b, off, none⟩ ∧ b < w.heap.size ∧ w'.cell? ⟨b, off + j, none⟩ = some (.string (S l[j])) := by
  obtain ⟨b, off, hA, hlt, hc⟩ := h (by omega)
  exact ⟨b, off, hA, hlt, (hb.cell (p := ⟨b, off + j, none⟩) hlt).trans (hc j hj)⟩
theorem LCells.at_ {w w' : World} {A : Option Addr} {l : List Bool} (h : LCells w w.heap.size A l) (hb : Below w.heap.size w w') (j : Nat) (hj : j < l.length) : ∃ b off, A = some ⟨b, off, none⟩ ∧ b < w.heap.size ∧ w'.cell? ⟨b, off + j, none⟩ = some (.bool l[j]) := by
  obtain ⟨b, off, hA, hlt, hc⟩ := h (by omega)
  exact ⟨b, off, hA, hlt, (hb.cell (p := ⟨b, off + j, none⟩) hlt).trans (hc j hj)⟩
end Go.Proofs.YtihfpockmginfaaDoor
