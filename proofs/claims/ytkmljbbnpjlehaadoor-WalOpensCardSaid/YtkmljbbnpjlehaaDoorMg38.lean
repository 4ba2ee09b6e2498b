/- Lists of bytes that came in: from their readings to their cells. No condition. Lists of bytes that came in: each has room for what it holds. No condition. -/
import Derived.Test.YtkmljbbnpjlehaaDoorMg05
import Derived.Deep.Grids
import Derived.Deep.Slices
namespace Go.Proofs.YtkmljbbnpjlehaaDoor
set_option maxRecDepth 8000
open Go.ChangeShapes Go.WideShapes Go.ChangeAt Go.WideMaps Go.WideElems Go.RowKit

theorem Tryd.cellsBytes : Tryd.prog.cellsOf 36 = 1 := by kernel_rfl
theorem open_bytesV {H : Type} {enc : TypeId × Value → H} {W : World} {base0 : Nat} {sp : Nat → Bool} {held : Bool} {fuel : Nat} {v : Value} {x : DataW H × List MemPlace}
    (hf : DataW.trod enc Tryd.prog W base0 sp held fuel 36 [v] = some x) :
    ∃ (A : Option Addr) (c : Nat) (l : List UInt8), v = .slice A l.length c ∧ BCells W W.heap.size A l ∧ l.length ≤ c ∧ c ≤ 9223372036854775807 := by
  rcases open_ints Tryd.underlying36 Tryd.underlying5 Tryd.cellsByte hf with ⟨hcs, _⟩ | ⟨a, len', cap', zs, hcs, _⟩
  · simp only [List.cons.injEq, and_true] at hcs
    exact ⟨none, 0, [], hcs, fun h => absurd h (by simp), Nat.le_refl _, by omega⟩
  · simp only [List.cons.injEq, and_true] at hcs
    subst hcs
    obtain ⟨l, h1, h2, h3, h4⟩ := open_bytes hf
    exact ⟨some a, cap', l, by rw [h1], h2, by omega, h4⟩
theorem open_lists {H : Type} {enc : TypeId × Value → H} {W : World} {base0 : Nat} {held : Bool} {fuel : Nat} {a0 : Option Addr} {len cap : Nat} {x : DataW H × List MemPlace}
    (hf : DataW.trod enc Tryd.prog W base0 (fun _ => true) held fuel 37 [.slice a0 len cap] = some x) :
    ∃ l : List (List UInt8), l.length = len ∧ LC W W.heap.size a0 l ∧ len ≤ cap ∧ cap ≤ 9223372036854775807 ∧ ∀ b ∈ l, b.length ≤ 9223372036854775807 := by
  rcases Deep.open_slice1 Tryd.underlying37 Tryd.cellsBytes hf with ⟨hcs, _⟩ | ⟨a, len', cap', m, n, V, D, Pl, hcs, _, hlc, hcm, hmm, _, hx⟩
  · simp only [List.cons.injEq, Value.slice.injEq, and_true] at hcs
    obtain ⟨rfl, rfl, rfl⟩ := hcs
    exact ⟨[], rfl, fun h => absurd h (by simp), by omega, by omega, fun b hb => absurd hb (by simp)⟩
  · simp only [List.cons.injEq, Value.slice.injEq, and_true] at hcs
    obtain ⟨rfl, rfl, rfl⟩ := hcs
    have hle : len ≤ m := by rw [hmm]; split <;> omega
    have hs : ∀ i, i < len → ∃ q : Option Addr × Nat × List UInt8, W.cell? (a.add i) = some (.slice q.1 q.2.2.length q.2.1) ∧ BCells W W.heap.size q.1 q.2.2 ∧ q.2.2.length ≤ 9223372036854775807 := by
      intro i hi
      obtain ⟨h1, h2⟩ := hx i (by omega)
      obtain ⟨A, c, l, e, hb, hlc', hcm'⟩ := open_bytesV h2
      exact ⟨(A, c, l), by rw [h1, e], hb, by show l.length ≤ _; omega⟩
    obtain ⟨q, hq⟩ := Deep.choose_lt (α := Option Addr × Nat × List UInt8) hs
    refine ⟨(List.range len).map fun i => (q i).2.2, by simp, fun hn => ?_, hlc, by unfold maxLen at hcm; omega, fun b hb => ?_⟩
    · have hn' : 0 < len := by simpa using hn
      obtain ⟨b, off, spot⟩ := a
      have h00 := (hq 0 hn').1
      have hspot : spot = none := by simpa [Addr.add] using World.cell?_spot h00
      subst hspot
      have hadd : ∀ j, (⟨b, off, none⟩ : Addr).add j = ⟨b, off + j, none⟩ := fun j => Addr.add_mid b off j
      refine ⟨b, off, rfl, ?_, fun k hk => ?_⟩
      · have := World.block_lt_of_cell? W _ h00
        rw [hadd] at this
        exact this
      · have hk' : k < len := by simpa using hk
        have e : ((List.range len).map fun i => (q i).2.2)[k] = (q k).2.2 := by simp
        rw [e]
        have h1 := (hq k hk').1
        rw [hadd] at h1
        exact ⟨(q k).1, (q k).2.1, h1, (hq k hk').2.1⟩
    · obtain ⟨i, hi, rfl⟩ := List.mem_map.1 hb
      exact (hq i (List.mem_range.1 hi)).2.2
end Go.Proofs.YtkmljbbnpjlehaaDoor
namespace Go.Proofs.YtkmljbbnpjlehaaDoor
set_option maxRecDepth 8000
open Go.ChangeShapes Go.WideShapes Go.ChangeAt Go.WideMaps Go.WideElems Go.RowKit

theorem open_lists_caps {H : Type} {enc : TypeId × Value → H} {W : World} {base0 : Nat} {held : Bool} {fuel : Nat} {a0 : Option Addr} {len cap : Nat} {x : DataW H × List MemPlace}
    (hf : DataW.trod enc Tryd.prog W base0 (fun _ => true) held fuel 37 [.slice a0 len cap] = some x) :
    ∀ ad, a0 = some ad → ∀ k, k < len → ∀ Ak nk ck, W.cell? (ad.add k) = some (.slice Ak nk ck) → nk ≤ ck ∧ ck ≤ 9223372036854775807 := by
  rcases Deep.open_slice1 Tryd.underlying37 Tryd.cellsBytes hf with ⟨hcs, _⟩ | ⟨a, len', cap', m, n, V, D, Pl, hcs, _, hlc, hcm, hmm, _, hx⟩
  · simp only [List.cons.injEq, Value.slice.injEq, and_true] at hcs
    obtain ⟨rfl, rfl, rfl⟩ := hcs
    intro ad h
    cases h
  · simp only [List.cons.injEq, Value.slice.injEq, and_true] at hcs
    obtain ⟨rfl, rfl, rfl⟩ := hcs
    have hle : len ≤ m := by rw [hmm]; split <;> omega
    intro ad h k hk Ak nk ck hc
    injection h with h
    subst h
    obtain ⟨h1, h2⟩ := hx k (by omega)
    obtain ⟨A, c, l, e, hb, hlc', hcm'⟩ := open_bytesV h2
    rw [h1, e] at hc
    injection hc with hc
    injection hc with _ e1 e2
    omega
end Go.Proofs.YtkmljbbnpjlehaaDoor
