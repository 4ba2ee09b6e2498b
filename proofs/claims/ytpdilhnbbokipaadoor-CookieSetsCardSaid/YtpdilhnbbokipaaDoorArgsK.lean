/- Cookies, and slices of cookies, that came in: from their readings to their cells. No condition. -/
import Derived.Test.YtpdilhnbbokipaaDoorArgsC
import Derived.Test.YtpdilhnbbokipaaDoorCk
namespace Go.Proofs.YtpdilhnbbokipaaDoor
set_option maxRecDepth 8000
open Go.ChangeShapes Go.WideShapes Go.ChangeAt Go.WideMaps Go.WideElems Go.RowKit

theorem Tryd.cellsCookie : Tryd.prog.cellsOf 32 = 6 := by kernel_rfl
theorem Tryd.cellsInt : Tryd.prog.cellsOf 3 = 1 := by kernel_rfl
theorem Tryd.cellsBool2 : Tryd.prog.cellsOf 4 = 1 := by kernel_rfl

instance : Inhabited Ck.C := ⟨⟨[], [], [], 0, false, false⟩⟩
theorem trod_cookie {H : Type} {enc : TypeId × Value → H} {W : World} {base0 : Nat} {sp : Nat → Bool} {held : Bool} {fuel : Nat} {cs : List Value} {x : DataW H × List MemPlace} (hlen : cs.length = 6)
    (hf : DataW.trod enc Tryd.prog W base0 sp held fuel 32 cs = some x) : ∃ c : Ck.C, cs = cellsC c := by
  match cs, hlen with
  | [c0, c1, c2, c3, c4, c5], _ =>
    obtain ⟨xs, n, _, _, _, hxl, hx⟩ := DataW.trod_struct Tryd.underlying32 hf
    have h0 := hx 0 _ rfl
    have h1 := hx 1 _ rfl
    have h2 := hx 2 _ rfl
    have h3 := hx 3 _ rfl
    have h4 := hx 4 _ rfl
    have h5 := hx 5 _ rfl
    simp [Tryd.cellsString, Tryd.cellsInt, Tryd.cellsBool2] at h0 h1 h2 h3 h4 h5
    have hl : xs.length = 6 := hxl
    rw [List.getElem?_eq_getElem (by omega)] at h0 h1 h2 h3 h4 h5
    obtain ⟨s0, e0, _, _⟩ := DataW.trod_string Tryd.underlying9 h0
    obtain ⟨s1, e1, _, _⟩ := DataW.trod_string Tryd.underlying9 h1
    obtain ⟨s2, e2, _, _⟩ := DataW.trod_string Tryd.underlying9 h2
    obtain ⟨z3, e3, _, _⟩ := DataW.trod_int Tryd.underlying3 h3
    obtain ⟨b4, e4, _⟩ := DataW.trod_bool Tryd.underlying4 h4
    obtain ⟨b5, e5, _⟩ := DataW.trod_bool Tryd.underlying4 h5
    simp only [List.cons.injEq, and_true] at e0 e1 e2 e3 e4 e5
    subst e0 e1 e2 e3 e4 e5
    exact ⟨⟨s0.data.toList, s1.data.toList, s2.data.toList, z3, b4, b5⟩, rfl⟩

theorem open_cookie {H : Type} {enc : TypeId × Value → H} {W : World} {base0 b0 : Nat} {sp : Nat → Bool} {held : Bool} {r : Reach} {v : Value} {d : DataW H} {p : List MemPlace}
    (hv : Value.okWide Tryd.prog W r b0 32 v) (h : DataW.Trod enc Tryd.prog W base0 sp held 32 v d p) : ∃ c : Ck.C, v = cV c := by
  obtain ⟨cs, rfl, hsz⟩ := okWide_struct Tryd.underlying32 hv
  obtain ⟨fuel, hf⟩ := h
  obtain ⟨l⟩ := cs
  have hl : l.length = 6 := hsz.trans Tryd.cellsCookie
  obtain ⟨c, hc⟩ := trod_cookie (cs := l) hl hf
  subst hc
  exact ⟨c, rfl⟩

theorem open_cookies {H : Type} {enc : TypeId × Value → H} {W : World} {base0 : Nat} {sp : Nat → Bool} {held : Bool} {fuel : Nat} {a0 : Option Addr} {len cap : Nat} {x : DataW H × List MemPlace}
    (hf : DataW.trod enc Tryd.prog W base0 sp held fuel 42 [.slice a0 len cap] = some x) :
    ∃ l : List Ck.C, l.length = len ∧ CCells W W.heap.size a0 l ∧ len ≤ 9223372036854775807 := by
  rcases Deep.open_slice Tryd.underlying42 hf with ⟨hcs, _⟩ | ⟨a, len', cap', m, n, D, Pl, hcs, _, hlc, hcm, hmm, _, hx⟩
  · simp only [List.cons.injEq, Value.slice.injEq, and_true] at hcs
    obtain ⟨rfl, rfl, rfl⟩ := hcs
    exact ⟨[], rfl, fun h => absurd h (by simp), by omega⟩
  · simp only [List.cons.injEq, Value.slice.injEq, and_true] at hcs
    obtain ⟨rfl, rfl, rfl⟩ := hcs
    have hle : len ≤ m := by rw [hmm]; split <;> omega
    have hs : ∀ i, i < len → ∃ q : Ck.C, ∀ j u, (cellsC q)[j]? = some u → W.cell? (a.add (i * 6 + j)) = some u := by
      intro i hi
      obtain ⟨cs', h1, h2⟩ := hx i (by omega)
      rw [Tryd.cellsCookie] at h1
      obtain ⟨_, hlen, hcell⟩ := World.cells?_some h1
      obtain ⟨q, hq⟩ := trod_cookie hlen h2
      subst hq
      refine ⟨q, fun j u hu => ?_⟩
      have hj : j < 6 := (List.getElem?_eq_some_iff.1 hu).1
      have := hcell j hj
      rw [Deep.add_add] at this
      rw [this]
      exact hu
    obtain ⟨q, hq⟩ := Deep.choose_lt (α := Ck.C) hs
    refine ⟨(List.range len).map q, by simp, fun hn => ?_, by unfold maxLen at hcm; omega⟩
    have hn' : 0 < len := by simpa using hn
    obtain ⟨b, off, spot⟩ := a
    have h00 := hq 0 hn' 0 _ rfl
    have hspot : spot = none := by simpa [Addr.add] using World.cell?_spot h00
    subst hspot
    have hadd : ∀ j, (⟨b, off, none⟩ : Addr).add j = ⟨b, off + j, none⟩ := fun j => Addr.add_mid b off j
    refine ⟨b, off, rfl, ?_, fun j u hu => ?_⟩
    · have := World.block_lt_of_cell? W _ h00
      rw [hadd] at this
      exact this
    · have hj : j < (cells6 ((List.range len).map q)).length := (List.getElem?_eq_some_iff.1 hu).1
      rw [cells6_len, List.length_map, List.length_range] at hj
      have hk : j / 6 < len := by omega
      have e : j = j / 6 * 6 + j % 6 := by omega
      rw [e, cells6_at _ (j / 6) (by simpa using hk) (j % 6) (by omega)] at hu
      simp only [List.getElem_map, List.getElem_range] at hu
      have := hq (j / 6) hk (j % 6) u hu
      rw [hadd, ← e] at this
      exact this
end Go.Proofs.YtpdilhnbbokipaaDoor
