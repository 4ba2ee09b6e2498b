/- Elements that came in, where what is read is of a bulk that is bounded: they read as trees, and are not much longer when they are written. No condition. -/
import Derived.Test.YtpleaopefngafaaDoorXmRd
import Derived.Test.YtpleaopefngafaaDoorRows
import Derived.ProofKit
import Derived.OpenShut
import Derived.ChangeSame
import Derived.ChangeArms
import Derived.Lib.SmallJoins
import Derived.Deep.SlicePairs
import Derived.Deep.Slices
import Derived.Deep.Grids
namespace Go.Proofs.YtpleaopefngafaaDoor
set_option maxRecDepth 8000
open Go.ChangeShapes Go.WideShapes Go.ChangeAt Go.WideMaps Go.WideElems Go.RowKit

theorem Tryd.cellsPair : Tryd.prog.cellsOf 38 = 2 := by kernel_rfl
theorem Tryd.cellsString : Tryd.prog.cellsOf 9 = 1 := by kernel_rfl
theorem Tryd.cellsPairs : Tryd.prog.cellsOf 23 = 1 := by kernel_rfl
theorem Tryd.cellsNodes : Tryd.prog.cellsOf 24 = 1 := by kernel_rfl
theorem Tryd.cellsNode : Tryd.prog.cellsOf 26 = 4 := by kernel_rfl

instance : Inhabited Xm.N := ⟨Xm.zero⟩
theorem bulk_mem {H : Type} {d : DataW H} : ∀ {l : List (DataW H)}, d ∈ l → Rows.uptoBulk d ≤ Rows.uptoBulkAll l
  | [], h => by cases h
  | x :: r, h => by
    rw [Rows.uptoBulkAll]
    rcases List.mem_cons.1 h with rfl | h
    · exact Nat.le_add_right _ _
    · exact Nat.le_trans (bulk_mem h) (Nat.le_add_left _ _)
theorem bulk_one {H : Type} (d : DataW H) : 1 ≤ Rows.uptoBulk d := by
  cases d with
  | lit l => cases l <;> simp [Rows.uptoBulk]
  | _ => simp [Rows.uptoBulk]
theorem attrs_bulk {H : Type} : ∀ l : List Xm.PairL, (Xm.attrsS l).length ≤ 6 * Rows.uptoBulkAll (l.map fun p => DataW.agg (H := H) [.lit (.string p.1), .lit (.string p.2)])
  | [] => by simp [Xm.attrsS]
  | p :: l => by
    have ih := attrs_bulk (H := H) l
    have e : Xm.attrsS (p :: l) = Xm.attrS p ++ Xm.attrsS l := rfl
    have h6 := Xm.escape6 p.2
    rw [e, List.length_append, List.map_cons, Rows.uptoBulkAll]
    have h1 : (Xm.attrS p).length = p.1.length + (Xm.escape p.2).length + 4 := by
      unfold Xm.attrS
      simp
      omega
    simp only [Rows.uptoBulk, Rows.uptoBulkAll] at ih ⊢
    omega

section
variable {H : Type} {enc : TypeId × Value → H} {W : World} {base0 : Nat} {sp : Nat → Bool} {held : Bool}
theorem open_pairsX {fuel : Nat} {v : Value} {x : DataW H × List MemPlace} (hf : DataW.trod enc Tryd.prog W base0 sp held fuel 23 [v] = some x) :
    ∃ (a0 : Option Addr) (cap : Nat) (l : List Xm.PairL), v = .slice a0 l.length cap ∧ PCells W W.heap.size a0 l ∧ (Xm.attrsS l).length ≤ 6 * Rows.uptoBulk x.1 := by
  rcases Deep.open_slice_pairs Tryd.underlying23 Tryd.underlying38 Tryd.cellsPair rfl rfl Tryd.cellsString Tryd.cellsString hf with ⟨hcs, _⟩ | ⟨a, len, cap, m, n, V0, V1, D0, D1, P0, P1, hcs, _, hlc, hcm, hmm, hxx, hx⟩
  · simp only [List.cons.injEq, and_true] at hcs
    exact ⟨none, 0, [], hcs, fun h => absurd h (by simp), by simp [Xm.attrsS]⟩
  · simp only [List.cons.injEq, and_true] at hcs
    have hle : len ≤ m := by rw [hmm]; split <;> omega
    have hs : ∀ i, i < len → ∃ q : Xm.PairL, W.cell? (a.add (i * 2)) = some (.string (S q.1)) ∧ W.cell? (a.add (i * 2 + 1)) = some (.string (S q.2)) ∧ D0 i = .lit (.string q.1) ∧ D1 i = .lit (.string q.2) := by
      intro i hi
      obtain ⟨c0, c1, t0, t1⟩ := hx i (by omega)
      obtain ⟨s0, e0, d0, _⟩ := DataW.trod_string Tryd.underlying9 t0
      obtain ⟨s1, e1, d1, _⟩ := DataW.trod_string Tryd.underlying9 t1
      simp only [List.cons.injEq, and_true] at e0 e1
      simp only [Prod.mk.injEq] at d0 d1
      refine ⟨(s0.data.toList, s1.data.toList), ?_, ?_, d0.1, d1.1⟩
      · rw [c0, e0]; rfl
      · rw [c1, e1]; rfl
    obtain ⟨q, hq⟩ := Deep.choose_lt (α := Xm.PairL) hs
    have hb : Rows.uptoBulkAll ((List.range len).map fun i => DataW.agg [D0 i, D1 i]) ≤ Rows.uptoBulk x.1 := by
      rw [hxx]
      simp only [Rows.uptoBulk]
      omega
    have he : ((List.range len).map fun i => DataW.agg [D0 i, D1 i]) = ((List.range len).map q).map fun p => DataW.agg (H := H) [.lit (.string p.1), .lit (.string p.2)] := by
      rw [List.map_map]
      refine List.map_congr_left (fun i hi => ?_)
      have h2 := hq i (List.mem_range.1 hi)
      rw [h2.2.2.1, h2.2.2.2]
      rfl
    refine ⟨some a, cap, (List.range len).map q, by rw [hcs]; simp, fun hn => ?_, ?_⟩
    · have hn' : 0 < len := by simpa using hn
      obtain ⟨b, off, spot⟩ := a
      have hspot : spot = none := by simpa [Addr.add] using World.cell?_spot (hq 0 hn').1
      subst hspot
      have hadd : ∀ j, (⟨b, off, none⟩ : Addr).add j = ⟨b, off + j, none⟩ := fun j => Addr.add_mid b off j
      refine ⟨b, off, rfl, ?_, fun k hk => ?_⟩
      · have := World.block_lt_of_cell? W _ (hq 0 hn').1
        rw [hadd] at this
        exact this
      · have hk' : k < len := by simpa using hk
        have h2 := hq k hk'
        rw [hadd, hadd] at h2
        simp only [List.getElem_map, List.getElem_range]
        exact ⟨h2.1, by rw [Nat.add_assoc]; exact h2.2.1⟩
    · have := attrs_bulk (H := H) ((List.range len).map q)
      rw [← he] at this
      omega
theorem trL_mk {w : World} {bd b off : Nat} : ∀ (ks : List Xm.N) (k : Nat), (∀ i (h : i < ks.length), ∃ v0 v1 v2 v3, w.cell? ⟨b, off + (k + i) * 4, none⟩ = some v0 ∧ w.cell? ⟨b, off + (k + i) * 4 + 1, none⟩ = some v1 ∧ w.cell? ⟨b, off + (k + i) * 4 + 2, none⟩ = some v2 ∧ w.cell? ⟨b, off + (k + i) * 4 + 3, none⟩ = some v3 ∧ Tr w bd ks[i] (.agg #[v0, v1, v2, v3])) → TrL w bd b off k ks
  | [], _, _ => by unfold TrL; trivial
  | x :: ks, k, h => by
    unfold TrL
    refine ⟨h 0 (by simp), trL_mk ks (k + 1) (fun i hi => ?_)⟩
    have := h (i + 1) (by simpa using hi)
    rw [show k + 1 + i = k + (i + 1) by omega]
    exact this
theorem kids_len (B : Nat → Nat) : ∀ (q : Nat → Xm.N) (l : List Nat), (∀ i ∈ l, (Xm.wr (q i)).length ≤ 6 * B i) → ((l.map q).flatMap Xm.wr).length ≤ 6 * (l.map B).sum
  | q, [], _ => by simp
  | q, i :: l, h => by
    have ih := kids_len B q l (fun j hj => h j (by simp [hj]))
    have h0 := h i (by simp)
    rw [List.map_cons, List.flatMap_cons, List.length_append, List.map_cons, List.sum_cons]
    omega
theorem bulk_sum : ∀ l : List (DataW H), Rows.uptoBulkAll l = (l.map Rows.uptoBulk).sum
  | [] => rfl
  | d :: r => by rw [Rows.uptoBulkAll, List.map_cons, List.sum_cons, bulk_sum r]

theorem open_node (M : Nat) : ∀ (fuel : Nat) (cs : List Value) (x : DataW H × List MemPlace), Rows.uptoBulk x.1 ≤ M → cs.length = 4 → DataW.trod enc Tryd.prog W base0 (fun _ => true) held fuel 26 cs = some x →
    ∃ n : Xm.N, Tr W W.heap.size n (.agg cs.toArray) ∧ (Xm.wr n).length ≤ 6 * Rows.uptoBulk x.1 := by
  induction M with
  | zero =>
    intro fuel cs x hM _ _
    have := bulk_one x.1
    omega
  | succ M ih =>
    intro fuel cs x hM hlen hf
    match cs, hlen with
    | [c0, c1, c2, c3], _ =>
      obtain ⟨xs, n, _, hxx, _, hxl, hx⟩ := DataW.trod_struct Tryd.underlying26 hf
      have h0 := hx 0 _ rfl
      have h1 := hx 1 _ rfl
      have h2 := hx 2 _ rfl
      have h3 := hx 3 _ rfl
      simp [Tryd.cellsString, Tryd.cellsPairs, Tryd.cellsNodes] at h0 h1 h2 h3
      have hl : xs.length = 4 := hxl
      match xs, hl with
      | [y0, y1, y2, y3], _ =>
        simp only [List.getElem?_cons_zero, List.getElem?_cons_succ] at h0 h1 h2 h3
        obtain ⟨s0, e0, d0, _⟩ := DataW.trod_string Tryd.underlying9 h0
        obtain ⟨A, ca, ats, e1, hpc, hal⟩ := open_pairsX h1
        obtain ⟨s2, e2, d2, _⟩ := DataW.trod_string Tryd.underlying9 h2
        simp only [List.cons.injEq, and_true] at e0 e2
        subst e0 e1 e2
        have hS0 : S s0.data.toList = s0 := rfl
        have hS2 : S s2.data.toList = s2 := rfl
        have hbx : Rows.uptoBulk x.1 = (s0.data.toList.length + 1) + (Rows.uptoBulk y1.1 + ((s2.data.toList.length + 1) + (Rows.uptoBulk y3.1 + 0))) + 1 := by
          rw [hxx]
          simp only [List.map_cons, List.map_nil, Rows.uptoBulk, Rows.uptoBulkAll, d0, d2]
        have h6 := Xm.escape6 s2.data.toList
        rcases Deep.open_slice Tryd.underlying24 h3 with ⟨hcs, hx3⟩ | ⟨a, len, cap, m, n2, D, Pl, hcs, _, hlc, hcm, hmm, hx3, hk⟩
        · simp only [List.cons.injEq, and_true] at hcs
          subst hcs
          refine ⟨.mk s0.data.toList ats s2.data.toList [], ?_, ?_⟩
          · unfold Tr
            exact ⟨A, ca, none, 0, rfl, hpc, fun h => absurd h (by simp)⟩
          · have hw := Xm.wr_len (.mk s0.data.toList ats s2.data.toList [])
            simp only [Xm.N.name, Xm.N.attrs, Xm.N.text, Xm.N.kids, List.flatMap_nil, List.length_nil] at hw
            omega
        · simp only [List.cons.injEq, and_true] at hcs
          subst hcs
          have hle : len ≤ m := by rw [hmm]; split <;> omega
          have hb3 : Rows.uptoBulkAll ((List.range len).map D) + 1 ≤ Rows.uptoBulk y3.1 := by
            rw [hx3]
            simp only [Rows.uptoBulk]
            omega
          have hs : ∀ i, i < len → ∃ q : Xm.N, (∃ v0 v1 v2 v3, W.cell? (a.add (i * 4)) = some v0 ∧ W.cell? (a.add (i * 4 + 1)) = some v1 ∧ W.cell? (a.add (i * 4 + 2)) = some v2 ∧ W.cell? (a.add (i * 4 + 3)) = some v3 ∧ Tr W W.heap.size q (.agg #[v0, v1, v2, v3])) ∧ (Xm.wr q).length ≤ 6 * Rows.uptoBulk (D i) := by
            intro i hi
            obtain ⟨cs', k1, k2⟩ := hk i (by omega)
            rw [Tryd.cellsNode] at k1
            obtain ⟨_, hlen', hcell⟩ := World.cells?_some k1
            have hbi : Rows.uptoBulk (D i) ≤ M := by
              have := bulk_mem (List.mem_map.2 ⟨i, List.mem_range.2 hi, rfl⟩ : D i ∈ (List.range len).map D)
              omega
            obtain ⟨q, hq1, hq2⟩ := ih n2 cs' (D i, Pl i) hbi hlen' k2
            match cs', hlen' with
            | [v0, v1, v2, v3], _ =>
              have g0 := hcell 0 (by omega)
              have g1 := hcell 1 (by omega)
              have g2 := hcell 2 (by omega)
              have g3 := hcell 3 (by omega)
              rw [Deep.add_add] at g0 g1 g2 g3
              exact ⟨q, ⟨v0, v1, v2, v3, g0, g1, g2, g3, hq1⟩, hq2⟩
          obtain ⟨q, hq⟩ := Deep.choose_lt (α := Xm.N) hs
          refine ⟨.mk s0.data.toList ats s2.data.toList ((List.range len).map q), ?_, ?_⟩
          · unfold Tr
            refine ⟨A, ca, some a, cap, by simp [nV, hS0, hS2], hpc, fun hn => ?_⟩
            have hn' : 0 < len := by simpa using hn
            obtain ⟨b, off, spot⟩ := a
            obtain ⟨⟨v0, _, _, _, g0, _⟩, _⟩ := hq 0 hn'
            have hspot : spot = none := by simpa [Addr.add] using World.cell?_spot g0
            subst hspot
            have hadd : ∀ j, (⟨b, off, none⟩ : Addr).add j = ⟨b, off + j, none⟩ := fun j => Addr.add_mid b off j
            refine ⟨b, off, rfl, ?_, trL_mk _ 0 (fun i hi => ?_)⟩
            · have := World.block_lt_of_cell? W _ g0
              rw [hadd] at this
              exact this
            · have hi' : i < len := by simpa using hi
              obtain ⟨⟨u0, u1, u2, u3, k0, k1, k2, k3, kt⟩, _⟩ := hq i hi'
              rw [hadd] at k0 k1 k2 k3
              simp only [List.getElem_map, List.getElem_range, Nat.zero_add]
              exact ⟨u0, u1, u2, u3, k0, by rw [Nat.add_assoc]; exact k1, by rw [Nat.add_assoc]; exact k2, by rw [Nat.add_assoc]; exact k3, kt⟩
          · have hw := Xm.wr_len (.mk s0.data.toList ats s2.data.toList ((List.range len).map q))
            have hkl := kids_len (fun i => Rows.uptoBulk (D i)) q (List.range len) (fun i hi => (hq i (List.mem_range.1 hi)).2)
            have hbs : Rows.uptoBulkAll ((List.range len).map D) = ((List.range len).map (fun i => Rows.uptoBulk (D i))).sum := by
              rw [bulk_sum, List.map_map]
              rfl
            simp only [Xm.N.name, Xm.N.attrs, Xm.N.text, Xm.N.kids] at hw
            omega
end
end Go.Proofs.YtpleaopefngafaaDoor
