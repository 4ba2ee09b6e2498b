/- Responses that came in, where what is read is of a bulk that is bounded: their texts are not longer than that. No condition. -/
import Derived.Test.YtehgigfngelkjaaDoorArgsP
import Derived.Test.YtehgigfngelkjaaDoorRows
import Derived.Deep.DeepHandedRow
namespace Go.Proofs.YtehgigfngelkjaaDoor
set_option maxRecDepth 8000
open Go.ChangeShapes Go.WideShapes Go.ChangeAt Go.WideMaps Go.WideElems Go.RowKit

theorem bulk_mem {H : Type} {d : DataW H} : ∀ {l : List (DataW H)}, d ∈ l → Rows.uptoBulk d ≤ Rows.uptoBulkAll l
  | [], h => by cases h
  | x :: r, h => by
    rw [Rows.uptoBulkAll]
    rcases List.mem_cons.1 h with rfl | h
    · exact Nat.le_add_right _ _
    · exact Nat.le_trans (bulk_mem h) (Nat.le_add_left _ _)
theorem bulk_one {H : Type} (d : DataW H) : 1 ≤ Rows.uptoBulk d := by
  cases d with
  | lit l => cases l <;> simp [Rows.uptoBulk]
  | _ => simp [Rows.uptoBulk]
theorem bulk_len {H : Type} : ∀ l : List (DataW H), l.length ≤ Rows.uptoBulkAll l
  | [] => Nat.zero_le _
  | x :: r => by
    rw [Rows.uptoBulkAll, List.length_cons]
    have h1 := bulk_one x
    have h2 := bulk_len r
    omega
theorem bulk_pair {H : Type} (a b : List UInt8) : a.length + b.length ≤ Rows.uptoBulk (DataW.agg [DataW.lit (H := H) (.string a), DataW.lit (.string b)]) := by
  simp only [Rows.uptoBulk, Rows.uptoBulkAll]
  omega

theorem open_pairs3 {H : Type} {enc : TypeId × Value → H} {W : World} {base0 : Nat} {sp : Nat → Bool} {held : Bool} {fuel : Nat} {v : Value} {x : DataW H × List MemPlace}
    (hf : DataW.trod enc Tryd.prog W base0 sp held fuel 22 [v] = some x) :
    ∃ (a0 : Option Addr) (cap : Nat) (l : List Pct.PairL), v = .slice a0 l.length cap ∧ PCells W W.heap.size a0 l ∧ l.length ≤ cap ∧ (a0 = none → cap = 0) ∧ l.length ≤ Rows.uptoBulk x.1 ∧ ∀ k (h : k < l.length), l[k].1.length ≤ Rows.uptoBulk x.1 ∧ l[k].2.length ≤ Rows.uptoBulk x.1 := by
  rcases Deep.open_slice_pairs Tryd.underlying22 Tryd.underlying44 Tryd.cellsPair rfl rfl Tryd.cellsString Tryd.cellsString hf with ⟨hcs, _⟩ | ⟨a, len, cap, m, n, V0, V1, D0, D1, P0, P1, hcs, _, hlc, hcm, hmm, hxx, hx⟩
  · simp only [List.cons.injEq, and_true] at hcs
    exact ⟨none, 0, [], hcs, fun h => absurd h (by simp), by simp, fun _ => rfl, Nat.zero_le _, fun k h => absurd h (by simp)⟩
  · simp only [List.cons.injEq, and_true] at hcs
    have hle : len ≤ m := by rw [hmm]; split <;> omega
    have hs : ∀ i, i < len → ∃ q : Pct.PairL, W.cell? (a.add (i * 2)) = some (.string (S q.1)) ∧ W.cell? (a.add (i * 2 + 1)) = some (.string (S q.2)) ∧ D0 i = .lit (.string q.1) ∧ D1 i = .lit (.string q.2) := by
      intro i hi
      obtain ⟨c0, c1, t0, t1⟩ := hx i (by omega)
      obtain ⟨s0, e0, d0, _⟩ := DataW.trod_string Tryd.underlying9 t0
      obtain ⟨s1, e1, d1, _⟩ := DataW.trod_string Tryd.underlying9 t1
      simp only [List.cons.injEq, and_true] at e0 e1
      simp only [Prod.mk.injEq] at d0 d1
      refine ⟨(s0.data.toList, s1.data.toList), ?_, ?_, d0.1, d1.1⟩
      · rw [c0, e0]; rfl
      · rw [c1, e1]; rfl
    obtain ⟨q, hq⟩ := Deep.choose_lt (α := Pct.PairL) hs
    have hb : Rows.uptoBulkAll ((List.range len).map fun i => DataW.agg [D0 i, D1 i]) ≤ Rows.uptoBulk x.1 := by
      rw [hxx]
      simp only [Rows.uptoBulk]
      omega
    refine ⟨some a, cap, (List.range len).map q, by rw [hcs]; simp, fun hn => ?_, by simpa using hlc, fun h => (by cases h), ?_, fun k hk => ?_⟩
    · have hn' : 0 < len := by simpa using hn
      obtain ⟨b, off, spot⟩ := a
      have hspot : spot = none := by simpa [Addr.add] using World.cell?_spot (hq 0 hn').1
      subst hspot
      have hadd : ∀ j, (⟨b, off, none⟩ : Addr).add j = ⟨b, off + j, none⟩ := fun j => Addr.add_mid b off j
      refine ⟨b, off, rfl, ?_, fun k hk => ?_⟩
      · have := World.block_lt_of_cell? W _ (hq 0 hn').1
        rw [hadd] at this
        exact this
      · have hk' : k < len := by simpa using hk
        have h2 := hq k hk'
        rw [hadd, hadd] at h2
        simp only [List.getElem_map, List.getElem_range]
        exact ⟨h2.1, by rw [Nat.add_assoc]; exact h2.2.1⟩
    · have := bulk_len ((List.range len).map fun i => DataW.agg [D0 i, D1 i])
      simp only [List.length_map, List.length_range] at this ⊢
      omega
    · have hk' : k < len := by simpa using hk
      have h2 := hq k hk'
      have hm : DataW.agg [D0 k, D1 k] ∈ (List.range len).map fun i => DataW.agg [D0 i, D1 i] := List.mem_map.2 ⟨k, List.mem_range.2 hk', rfl⟩
      have h3 := bulk_mem hm
      rw [h2.2.2.1, h2.2.2.2] at h3
      have h4 := bulk_pair (H := H) (q k).1 (q k).2
      simp only [List.getElem_map, List.getElem_range]
      omega
theorem open_rsp2 {H : Type} {enc : TypeId × Value → H} {W : World} {base0 b0 : Nat} {sp : Nat → Bool} {held : Bool} {r : Reach} {v : Value} {d : DataW H} {p : List MemPlace}
    (hv : Value.okWide Tryd.prog W r b0 24 v) (h : DataW.Trod enc Tryd.prog W base0 sp held 24 v d p) :
    ∃ (s : Int) (a : Option Addr) (cap : Nat) (l : List Pct.PairL) (b : List UInt8), v = .agg #[.int .i64 s, .slice a l.length cap, .string (S b)] ∧ (Lit.int .i64 s).wf = true ∧ PCells W W.heap.size a l ∧ l.length ≤ cap ∧ (a = none → cap = 0) ∧ l.length ≤ Rows.uptoBulk d ∧ (∀ k (h : k < l.length), l[k].1.length ≤ Rows.uptoBulk d ∧ l[k].2.length ≤ Rows.uptoBulk d) ∧ b.length ≤ Rows.uptoBulk d := by
  obtain ⟨v0, v1, v2, y0, y1, y2, n, rfl, hd, _, h0, h1, h2⟩ := Joins.open_agg3 Tryd.underlying24 (by kernel_rfl) Tryd.cellsRsp hv h
  obtain ⟨z0, e0, _, hz⟩ := DataW.trod_int Tryd.underlying3 h0
  obtain ⟨s2, e2, d2, _⟩ := DataW.trod_string Tryd.underlying9 h2
  obtain ⟨a0, cap, l, rfl, hc, hcap, hnil, hlen, hpart⟩ := open_pairs3 h1
  simp only [List.cons.injEq, and_true] at e0 e2
  subst e0 e2
  have hb : Rows.uptoBulk y1.1 + Rows.uptoBulk y2.1 ≤ Rows.uptoBulk d := by
    rw [hd]
    simp only [Rows.uptoBulk, Rows.uptoBulkAll]
    omega
  have h2b : s2.data.toList.length ≤ Rows.uptoBulk y2.1 := by
    rw [d2]
    simp [Rows.uptoBulk]
  exact ⟨z0, a0, cap, l, s2.data.toList, rfl, hz, hc, hcap, hnil, by omega, fun k hk => by have := hpart k hk; omega, by omega⟩
theorem upto_bound {H : Type} {l : List (DataW H)} (h : Rows.uptoSmall H l = true) : Rows.uptoBulkAll l ≤ 1048576 := of_decide_eq_true h

theorem witness_row5 {H : Type} {enc : TypeId × Value → H} {os : Os} {f : FuncId} {fn : Func} {s : OpenSpec} (args : Array Value)
    (hok : Input.okWideB Tryd.checked.prog ((World.laidAll Tryd.prog os laid5).forCall (fun _ _ => 0) ⟨#[], args, []⟩) f ⟨#[], args, []⟩ = true)
    (hrow : s.preRow enc Tryd.checked.prog fn [] false laid5 ((World.laidAll Tryd.prog os laid5).forCall (fun _ _ => 0) ⟨#[], args, []⟩).memory args) :
    ∃ (w : World) (tape : Tape) (i : Input), w.os = os ∧ (w.forCall tape i).Shaped Tryd.checked.prog ∧ i.vars = [] ∧ Input.okWide Tryd.checked.prog (w.forCall tape i) .any w.heap.size f i ∧
      s.preRow enc Tryd.checked.prog fn [] false laid5 (w.forCall tape i).memory i.args ∧ ({} : Assume).holds Tryd.checked.prog (lone (Frame.enter Tryd.checked.prog f i.args .normal) [] (w.forCall tape i)) :=
  ⟨World.laidAll Tryd.prog os laid5, fun _ _ => 0, ⟨#[], args, []⟩, World.laidAll_os _ _ _, door_shaped5 os, (Input.okWide_of_okWideB (base := 0) hok).1, (Input.okWide_of_okWideB hok).2, hrow, by
    simp only [Assume.holds]
    exact ⟨by simp, by simp, fun _ => Modest.zero, by simp, by simp⟩⟩
end Go.Proofs.YtehgigfngelkjaaDoor
