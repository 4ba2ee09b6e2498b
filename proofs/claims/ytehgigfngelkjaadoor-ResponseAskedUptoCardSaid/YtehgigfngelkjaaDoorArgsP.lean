/- Slices of pairs and of texts, and responses, that came in: from their readings to their cells. No condition. -/
import Derived.Test.YtehgigfngelkjaaDoorLaidP
import Derived.Test.YtehgigfngelkjaaDoorEg
import Derived.Deep.SlicePairs
import Derived.Deep.Strs
import Derived.Carry
import Derived.Lib.SmallJoins
namespace Go.Proofs.YtehgigfngelkjaaDoor
set_option maxRecDepth 8000
open Go.ChangeShapes Go.WideShapes Go.ChangeAt Go.WideMaps Go.WideElems Go.RowKit

theorem Tryd.cellsPair : Tryd.prog.cellsOf 44 = 2 := by kernel_rfl
theorem Tryd.cellsString : Tryd.prog.cellsOf 9 = 1 := by kernel_rfl

theorem open_pairs2 {H : Type} {enc : TypeId × Value → H} {W : World} {base0 : Nat} {sp : Nat → Bool} {held : Bool} {fuel : Nat} {v : Value} {x : DataW H × List MemPlace}
    (hf : DataW.trod enc Tryd.prog W base0 sp held fuel 22 [v] = some x) :
    ∃ (a0 : Option Addr) (cap : Nat) (l : List Pct.PairL), v = .slice a0 l.length cap ∧ PCells W W.heap.size a0 l ∧ l.length ≤ 9223372036854775807 ∧ l.length ≤ cap ∧ (a0 = none → cap = 0) := by
  rcases Deep.open_slice_pairs Tryd.underlying22 Tryd.underlying44 Tryd.cellsPair rfl rfl Tryd.cellsString Tryd.cellsString hf with ⟨hcs, _⟩ | ⟨a, len, cap, m, n, V0, V1, D0, D1, P0, P1, hcs, _, hlc, hcm, hmm, _, hx⟩
  · simp only [List.cons.injEq, and_true] at hcs
    exact ⟨none, 0, [], hcs, fun h => absurd h (by simp), by simp, by simp, fun _ => rfl⟩
  · simp only [List.cons.injEq, and_true] at hcs
    have hle : len ≤ m := by rw [hmm]; split <;> omega
    have hs : ∀ i, i < len → ∃ q : Pct.PairL, W.cell? (a.add (i * 2)) = some (.string (S q.1)) ∧ W.cell? (a.add (i * 2 + 1)) = some (.string (S q.2)) := by
      intro i hi
      obtain ⟨c0, c1, t0, t1⟩ := hx i (by omega)
      obtain ⟨s0, e0, _, _⟩ := DataW.trod_string Tryd.underlying9 t0
      obtain ⟨s1, e1, _, _⟩ := DataW.trod_string Tryd.underlying9 t1
      simp only [List.cons.injEq, and_true] at e0 e1
      refine ⟨(s0.data.toList, s1.data.toList), ?_, ?_⟩
      · rw [c0, e0]; rfl
      · rw [c1, e1]; rfl
    obtain ⟨q, hq⟩ := Deep.choose_lt (α := Pct.PairL) hs
    refine ⟨some a, cap, (List.range len).map q, by rw [hcs]; simp, fun hn => ?_, by unfold maxLen at hcm; simp; omega, by simpa using hlc, fun h => by cases h⟩
    have hn' : 0 < len := by simpa using hn
    obtain ⟨b, off, spot⟩ := a
    have hspot : spot = none := by simpa [Addr.add] using World.cell?_spot (hq 0 hn').1
    subst hspot
    have hadd : ∀ j, (⟨b, off, none⟩ : Addr).add j = ⟨b, off + j, none⟩ := fun j => Addr.add_mid b off j
    refine ⟨b, off, rfl, ?_, fun k hk => ?_⟩
    · have := World.block_lt_of_cell? W _ (hq 0 hn').1
      rw [hadd] at this
      exact this
    · have hk' : k < len := by simpa using hk
      have h2 := hq k hk'
      rw [hadd, hadd] at h2
      simp only [List.getElem_map, List.getElem_range]
      exact ⟨h2.1, by rw [Nat.add_assoc]; exact h2.2⟩
theorem open_texts {H : Type} {enc : TypeId × Value → H} {W : World} {base0 : Nat} {sp : Nat → Bool} {held : Bool} {fuel : Nat} {a0 : Option Addr} {len cap : Nat} {x : DataW H × List MemPlace}
    (hf : DataW.trod enc Tryd.prog W base0 sp held fuel 32 [.slice a0 len cap] = some x) :
    ∃ l : List (List UInt8), l.length = len ∧ SCells W W.heap.size a0 l := by
  rcases Deep.open_strs Tryd.underlying32 Tryd.underlying9 Tryd.cellsString hf with ⟨hcs, _⟩ | ⟨a, len', cap', m, Sx, hcs, _, hlc, hcm, hmm, _, hx⟩
  · simp only [List.cons.injEq, Value.slice.injEq, and_true] at hcs
    obtain ⟨rfl, rfl, rfl⟩ := hcs
    exact ⟨[], rfl, fun h => absurd h (by simp)⟩
  · simp only [List.cons.injEq, Value.slice.injEq, and_true] at hcs
    obtain ⟨rfl, rfl, rfl⟩ := hcs
    have hle : len ≤ m := by rw [hmm]; split <;> omega
    refine ⟨(List.range len).map fun i => (Sx i).data.toList, by simp, fun hn => ?_⟩
    have hn' : 0 < len := by simpa using hn
    obtain ⟨b, off, spot⟩ := a
    have hspot : spot = none := by simpa [Addr.add] using World.cell?_spot (hx 0 (by omega)).1
    subst hspot
    have hadd : ∀ j, (⟨b, off, none⟩ : Addr).add j = ⟨b, off + j, none⟩ := fun j => Addr.add_mid b off j
    refine ⟨b, off, rfl, ?_, fun k hk => ?_⟩
    · have := World.block_lt_of_cell? W _ (hx 0 (by omega)).1
      rw [hadd] at this
      exact this
    · have hk' : k < len := by simpa using hk
      have h2 := (hx k (by omega)).1
      rw [hadd] at h2
      simp only [List.getElem_map, List.getElem_range]
      exact h2

theorem Tryd.cellsRsp : Tryd.prog.cellsOf 24 = 3 := by kernel_rfl
theorem open_rsp {H : Type} {enc : TypeId × Value → H} {W : World} {base0 b0 : Nat} {sp : Nat → Bool} {held : Bool} {r : Reach} {v : Value} {d : DataW H} {p : List MemPlace}
    (hv : Value.okWide Tryd.prog W r b0 24 v) (h : DataW.Trod enc Tryd.prog W base0 sp held 24 v d p) :
    ∃ (s : Int) (a : Option Addr) (cap : Nat) (l : List Pct.PairL) (b : List UInt8), v = .agg #[.int .i64 s, .slice a l.length cap, .string (S b)] ∧ (Lit.int .i64 s).wf = true ∧ PCells W W.heap.size a l ∧ l.length ≤ 9223372036854775807 ∧ l.length ≤ cap ∧ (a = none → cap = 0) := by
  obtain ⟨v0, v1, v2, y0, y1, y2, n, rfl, _, _, h0, h1, h2⟩ := Joins.open_agg3 Tryd.underlying24 (by kernel_rfl) Tryd.cellsRsp hv h
  obtain ⟨z0, e0, _, hz⟩ := DataW.trod_int Tryd.underlying3 h0
  obtain ⟨s2, e2, _, _⟩ := DataW.trod_string Tryd.underlying9 h2
  obtain ⟨a0, cap, l, rfl, hc⟩ := open_pairs2 h1
  simp only [List.cons.injEq, and_true] at e0 e2
  subst e0 e2
  exact ⟨z0, a0, cap, l, s2.data.toList, rfl, hz, hc⟩
end Go.Proofs.YtehgigfngelkjaaDoor
