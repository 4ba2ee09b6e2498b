/- Ops that came in: from their reading to their cells. No condition. -/
import Derived.Test.YtfeaonbeklmfgaaGreatDoorTrJ
import Derived.Test.YtfeaonbeklmfgaaGreatDoorRkOp
namespace Go.Proofs.YtfeaonbeklmfgaaGreatDoor
set_option maxRecDepth 8000
open Go.ChangeShapes Go.WideShapes Go.ChangeAt Go.WideMaps Go.WideElems Go.RowKit

theorem Tryz.cellsOp14 : Tryz.prog.cellsOf 32 = 11 := by kernel_rfl
theorem trod_rec {H : Type} {enc : TypeId × Value → H} {W : World} {base0 : Nat} {held : Bool} {fuel : Nat} {cs : List Value} {x : DataW H × List MemPlace} (hlen : cs.length = 10)
    (hf : DataW.trod enc Tryz.prog W base0 (fun _ => true) held fuel 30 cs = some x) : ∃ r : Rk.R, cs = cellsR r := by
  match cs, hlen with
  | [c0, c1, c2, c3, c4, c5, c6, c7, c8, c9], _ =>
    obtain ⟨xs, n, _, _, _, hxl, hx⟩ := DataW.trod_struct Tryz.underlying30 hf
    have h0 := hx 0 _ rfl
    have h1 := hx 1 _ rfl
    have h2 := hx 2 _ rfl
    have h3 := hx 3 _ rfl
    have h4 := hx 4 _ rfl
    have h5 := hx 5 _ rfl
    have h6 := hx 6 _ rfl
    have h7 := hx 7 _ rfl
    have h8 := hx 8 _ rfl
    have h9 := hx 9 _ rfl
    simp [Tryz.cellsStr, Tryz.cellsIntR, Tryz.cellsBoolR] at h0 h1 h2 h3 h4 h5 h6 h7 h8 h9
    have hl : xs.length = 10 := hxl
    rw [List.getElem?_eq_getElem (by omega)] at h0 h1 h2 h3 h4 h5 h6 h7 h8 h9
    obtain ⟨z0, e0, _, _⟩ := DataW.trod_int Tryz.underlying3 h0
    obtain ⟨s1, e1, _, _⟩ := DataW.trod_string Tryz.underlying9 h1
    obtain ⟨s2, e2, _, _⟩ := DataW.trod_string Tryz.underlying9 h2
    obtain ⟨s3, e3, _, _⟩ := DataW.trod_string Tryz.underlying9 h3
    obtain ⟨s4, e4, _, _⟩ := DataW.trod_string Tryz.underlying9 h4
    obtain ⟨s5, e5, _, _⟩ := DataW.trod_string Tryz.underlying9 h5
    obtain ⟨z6, e6, _, _⟩ := DataW.trod_int Tryz.underlying3 h6
    obtain ⟨z7, e7, _, _⟩ := DataW.trod_int Tryz.underlying3 h7
    obtain ⟨z8, e8, _, _⟩ := DataW.trod_int Tryz.underlying3 h8
    obtain ⟨b9, e9, _⟩ := DataW.trod_bool Tryz.underlying4 h9
    simp only [List.cons.injEq, and_true] at e0 e1 e2 e3 e4 e5 e6 e7 e8 e9
    subst e0 e1 e2 e3 e4 e5 e6 e7 e8 e9
    exact ⟨⟨z0, s1.data.toList, s2.data.toList, s3.data.toList, s4.data.toList, s5.data.toList, z6, z7, z8, b9⟩, rfl⟩
theorem trod_op {H : Type} {enc : TypeId × Value → H} {W : World} {base0 : Nat} {held : Bool} {fuel : Nat} {cs : List Value} {x : DataW H × List MemPlace} (hlen : cs.length = 11)
    (hf : DataW.trod enc Tryz.prog W base0 (fun _ => true) held fuel 32 cs = some x) : ∃ o : Tr.O, cs = .int .i64 o.d :: cellsR o.r := by
  match cs, hlen with
  | c0 :: cs', hl' =>
    have hl10 : cs'.length = 10 := by simpa using hl'
    obtain ⟨xs, n, _, _, _, hxl, hx⟩ := DataW.trod_struct Tryz.underlying32 hf
    have h0 := hx 0 _ rfl
    have h1 := hx 1 _ rfl
    simp [Tryz.cellsRec, Tryz.cellsIntR] at h0 h1
    rw [List.take_of_length_le (by omega)] at h1
    have hl : xs.length = 2 := hxl
    rw [List.getElem?_eq_getElem (by omega)] at h0 h1
    obtain ⟨z0, e0, _, _⟩ := DataW.trod_int Tryz.underlying3 h0
    obtain ⟨r, rfl⟩ := trod_rec hl10 h1
    simp only [List.cons.injEq, and_true] at e0
    subst e0
    exact ⟨⟨z0, r⟩, rfl⟩
instance : Inhabited Tr.O := ⟨⟨0, ⟨0, [], [], [], [], [], 0, 0, 0, false⟩⟩⟩
theorem open_ops14 {H : Type} {enc : TypeId × Value → H} {W : World} {base0 : Nat} {held : Bool} {fuel : Nat} {a0 : Option Addr} {len cap : Nat} {x : DataW H × List MemPlace}
    (hf : DataW.trod enc Tryz.prog W base0 (fun _ => true) held fuel 22 [.slice a0 len cap] = some x) :
    ∃ l : List Tr.O, l.length = len ∧ OIn W W.heap.size a0 l ∧ len ≤ 9223372036854775807 := by
  rcases Deep.open_slice Tryz.underlying22 hf with ⟨hcs, _⟩ | ⟨a, len', cap', m, n, D, Pl, hcs, _, hlc, hcm, hmm, _, hx⟩
  · simp only [List.cons.injEq, Value.slice.injEq, and_true] at hcs
    obtain ⟨rfl, rfl, rfl⟩ := hcs
    exact ⟨[], rfl, fun h => absurd h (by simp), by omega⟩
  · simp only [List.cons.injEq, Value.slice.injEq, and_true] at hcs
    obtain ⟨rfl, rfl, rfl⟩ := hcs
    have hle : len ≤ m := by rw [hmm]; split <;> omega
    have hs : ∀ i, i < len → ∃ q : Tr.O, ∀ j u, (.int .i64 q.d :: cellsR q.r : List Value)[j]? = some u → W.cell? (a.add (i * 11 + j)) = some u := by
      intro i hi
      obtain ⟨cs', h1, h2⟩ := hx i (by omega)
      rw [Tryz.cellsOp14] at h1
      obtain ⟨_, hlen, hcell⟩ := World.cells?_some h1
      obtain ⟨q, hq⟩ := trod_op hlen h2
      subst hq
      refine ⟨q, fun j u hu => ?_⟩
      have hj : j < 11 := (List.getElem?_eq_some_iff.1 hu).1
      have := hcell j hj
      rw [Deep.add_add] at this
      rw [this]
      exact hu
    obtain ⟨q, hq⟩ := Deep.choose_lt (α := Tr.O) hs
    refine ⟨(List.range len).map q, by simp, fun hn => ?_, by unfold maxLen at hcm; omega⟩
    have hn' : 0 < len := by simpa using hn
    obtain ⟨b, off, spot⟩ := a
    have h00 := hq 0 hn' 0 _ rfl
    have hspot : spot = none := by simpa [Addr.add] using World.cell?_spot h00
    subst hspot
    have hadd : ∀ j, (⟨b, off, none⟩ : Addr).add j = ⟨b, off + j, none⟩ := fun j => Addr.add_mid b off j
    refine ⟨b, off, rfl, ?_, fun k hk => ?_⟩
    · have := World.block_lt_of_cell? W _ h00
      rw [hadd] at this
      exact this
    · have hk' : k < len := by simpa using hk
      have e : ((List.range len).map q)[k] = q k := by simp
      rw [e]
      have h0 := hq k hk' 0 _ rfl
      rw [hadd] at h0
      refine ⟨h0, .of fun i u hu => ?_⟩
      have h1 := hq k hk' (i + 1) u (by rw [List.getElem?_cons_succ]; exact hu)
      rw [hadd] at h1
      rw [show off + k * 11 + 1 + i = off + (k * 11 + (i + 1)) by omega]
      exact h1
end Go.Proofs.YtfeaonbeklmfgaaGreatDoor
