/- Lists of bytes that came in, and how long their frames can be at most for their reading's bulk. No condition. Things that are done to a log, as they came in: one of them by itself; how many they are at most for their reading's bulk. No condition. -/
import Derived.Test.YtkmljbbnpjlehaaDoorMg35
import Derived.Test.YtkmljbbnpjlehaaDoorMg36
import Derived.Test.YtkmljbbnpjlehaaDoorMg01
import Derived.Deep.DeepHandedRow
namespace Go.Proofs.YtkmljbbnpjlehaaDoor
set_option maxRecDepth 8000
open Go.ChangeShapes Go.WideShapes Go.ChangeAt Go.WideMaps Go.WideElems Go.RowKit

theorem bulk_mem {H : Type} {d : DataW H} : ∀ {l : List (DataW H)}, d ∈ l → Rows.uptoBulk d ≤ Rows.uptoBulkAll l
  | [], h => by cases h
  | x :: r, h => by
    rw [Rows.uptoBulkAll]
    rcases List.mem_cons.1 h with rfl | h
    · exact Nat.le_add_right _ _
    · exact Nat.le_trans (bulk_mem h) (Nat.le_add_left _ _)
theorem bulk_one {H : Type} (d : DataW H) : 1 ≤ Rows.uptoBulk d := by
  cases d with
  | lit l => cases l <;> simp [Rows.uptoBulk]
  | _ => simp [Rows.uptoBulk]
theorem bulk_len {H : Type} : ∀ l : List (DataW H), l.length ≤ Rows.uptoBulkAll l
  | [] => Nat.zero_le _
  | d :: l => by
    have := bulk_len l
    have := bulk_one d
    rw [Rows.uptoBulkAll, List.length_cons]
    omega
theorem open_bytesB {H : Type} {enc : TypeId × Value → H} {W : World} {base0 : Nat} {sp : Nat → Bool} {held : Bool} {fuel : Nat} {v : Value} {x : DataW H × List MemPlace}
    (hf : DataW.trod enc Tryd.prog W base0 sp held fuel 36 [v] = some x) :
    ∃ (A : Option Addr) (c : Nat) (l : List UInt8), v = .slice A l.length c ∧ BCells W W.heap.size A l ∧ l.length ≤ c ∧ c ≤ 9223372036854775807 ∧ l.length + 1 ≤ Rows.uptoBulk x.1 := by
  obtain ⟨A, c, l, hv, hb, h1, h2⟩ := open_bytesV hf
  refine ⟨A, c, l, hv, hb, h1, h2, ?_⟩
  rcases open_ints Tryd.underlying36 Tryd.underlying5 Tryd.cellsByte hf with ⟨hcs, hx⟩ | ⟨a, len', cap', zs, hcs, _, hlc, _, hzl, hx, _⟩
  · simp only [List.cons.injEq, and_true] at hcs
    rw [hv] at hcs
    injection hcs with _ e _
    have := bulk_one x.1
    omega
  · simp only [List.cons.injEq, and_true] at hcs
    rw [hv] at hcs
    injection hcs with _ e _
    rw [hx]
    have hz : len' ≤ zs.length := by rw [hzl]; split <;> omega
    have h3 := bulk_len (lits (H := H) .u8 (zs.take len'))
    have h4 : (lits (H := H) .u8 (zs.take len')).length = len' := by
      unfold lits
      rw [List.length_map, List.length_take]
      omega
    show l.length + 1 ≤ Rows.uptoBulkAll _ + Rows.uptoBulkAll _ + 1
    omega
theorem total_bulk {H : Type} (q : Nat → List UInt8) (D : Nat → DataW H) : ∀ is : List Nat, (∀ i ∈ is, (q i).length + 1 ≤ Rows.uptoBulk (D i)) → Fr.total (is.map q) ≤ 7 * Rows.uptoBulkAll (is.map D)
  | [], _ => Nat.zero_le _
  | i :: is, h => by
    have ih := total_bulk q D is (fun j hj => h j (by simp [hj]))
    have h0 := h i (by simp)
    rw [List.map_cons, List.map_cons, Rows.uptoBulkAll]
    show (6 + (q i).length) + Fr.total (is.map q) ≤ _
    omega
theorem open_listsB {H : Type} {enc : TypeId × Value → H} {W : World} {base0 : Nat} {held : Bool} {fuel : Nat} {a0 : Option Addr} {len cap : Nat} {x : DataW H × List MemPlace}
    (hf : DataW.trod enc Tryd.prog W base0 (fun _ => true) held fuel 37 [.slice a0 len cap] = some x) :
    ∃ l : List (List UInt8), l.length = len ∧ LC W W.heap.size a0 l ∧ len ≤ cap ∧ cap ≤ 9223372036854775807 ∧ (∀ b ∈ l, b.length ≤ 9223372036854775807) ∧ Fr.total l ≤ 7 * Rows.uptoBulk x.1 := by
  rcases Deep.open_slice1 Tryd.underlying37 Tryd.cellsBytes hf with ⟨hcs, _⟩ | ⟨a, len', cap', m, n, V, D, Pl, hcs, _, hlc, hcm, hmm, hxx, hx⟩
  · simp only [List.cons.injEq, Value.slice.injEq, and_true] at hcs
    obtain ⟨rfl, rfl, rfl⟩ := hcs
    exact ⟨[], rfl, fun h => absurd h (by simp), by omega, by omega, fun b hb => absurd hb (by simp), Nat.zero_le _⟩
  · simp only [List.cons.injEq, Value.slice.injEq, and_true] at hcs
    obtain ⟨rfl, rfl, rfl⟩ := hcs
    have hle : len ≤ m := by rw [hmm]; split <;> omega
    have hs : ∀ i, i < len → ∃ q : Option Addr × Nat × List UInt8, W.cell? (a.add i) = some (.slice q.1 q.2.2.length q.2.1) ∧ BCells W W.heap.size q.1 q.2.2 ∧ q.2.2.length ≤ 9223372036854775807 ∧ q.2.2.length + 1 ≤ Rows.uptoBulk (D i) := by
      intro i hi
      obtain ⟨h1, h2⟩ := hx i (by omega)
      obtain ⟨A, c, l, e, hb, hlc', hcm', hbk⟩ := open_bytesB h2
      exact ⟨(A, c, l), by rw [h1, e], hb, by show l.length ≤ _; omega, hbk⟩
    obtain ⟨q, hq⟩ := Deep.choose_lt (α := Option Addr × Nat × List UInt8) hs
    refine ⟨(List.range len).map fun i => (q i).2.2, by simp, fun hn => ?_, hlc, by unfold maxLen at hcm; omega, fun b hb => ?_, ?_⟩
    · have hn' : 0 < len := by simpa using hn
      obtain ⟨b, off, spot⟩ := a
      have h00 := (hq 0 hn').1
      have hspot : spot = none := by simpa [Addr.add] using World.cell?_spot h00
      subst hspot
      have hadd : ∀ j, (⟨b, off, none⟩ : Addr).add j = ⟨b, off + j, none⟩ := fun j => Addr.add_mid b off j
      refine ⟨b, off, rfl, ?_, fun k hk => ?_⟩
      · have := World.block_lt_of_cell? W _ h00
        rw [hadd] at this
        exact this
      · have hk' : k < len := by simpa using hk
        have e : ((List.range len).map fun i => (q i).2.2)[k] = (q k).2.2 := by simp
        rw [e]
        have h1 := (hq k hk').1
        rw [hadd] at h1
        exact ⟨(q k).1, (q k).2.1, h1, (hq k hk').2.1⟩
    · obtain ⟨i, hi, rfl⟩ := List.mem_map.1 hb
      exact (hq i (List.mem_range.1 hi)).2.2.1
    · have h1 := total_bulk (fun i => (q i).2.2) D (List.range len) (fun i hi => (hq i (List.mem_range.1 hi)).2.2.2)
      rw [hxx]
      show _ ≤ 7 * (Rows.uptoBulkAll _ + Rows.uptoBulkAll _ + 1)
      omega
end Go.Proofs.YtkmljbbnpjlehaaDoor
namespace Go.Proofs.YtkmljbbnpjlehaaDoor
set_option maxRecDepth 8000
open Go.ChangeShapes Go.WideShapes Go.ChangeAt Go.WideMaps Go.WideElems Go.RowKit

theorem open_woV {H : Type} {enc : TypeId × Value → H} {W : World} {base0 b0 : Nat} {held : Bool} {r : Reach} {v : Value} {d : DataW H} {p : List MemPlace}
    (hv : Value.okWide Tryd.prog W r b0 40 v) (h : DataW.Trod enc Tryd.prog W base0 (fun _ => true) held 40 v d p) :
    ∃ (o : Wl.O) (m : Wo), v = .agg #[.int .i64 o.x, .int .i64 o.i, .slice m.A o.b.length m.cA, .slice m.L o.l.length m.cL, .slice m.G o.p.length m.cG] ∧ WoIn W W.heap.size o m := by
  obtain ⟨cs, rfl, hsz⟩ := okWide_struct Tryd.underlying40 hv
  obtain ⟨fuel, hf⟩ := h
  obtain ⟨q, hq1, hq2⟩ := trod_wo (cs := cs.toList) (by rw [Array.length_toList, hsz]; exact Tryd.cellsWo) hf
  refine ⟨q.1, q.2, ?_, hq2⟩
  have e : (Value.agg cs) = .agg cs.toList.toArray := by simp
  rw [e, hq1]
  rfl
theorem open_wosB {H : Type} {enc : TypeId × Value → H} {W : World} {base0 : Nat} {held : Bool} {fuel : Nat} {v : Value} {x : DataW H × List MemPlace}
    (hf : DataW.trod enc Tryd.prog W base0 (fun _ => true) held fuel 22 [v] = some x) :
    ∃ (a0 : Option Addr) (cap : Nat) (l : List Wl.O), v = .slice a0 l.length cap ∧ WosIn W W.heap.size a0 l ∧ l.length ≤ Rows.uptoBulk x.1 := by
  obtain ⟨a0, cap, l, hv, hin, _⟩ := open_wos hf
  refine ⟨a0, cap, l, hv, hin, ?_⟩
  rcases Deep.open_slice Tryd.underlying22 hf with ⟨hcs, _⟩ | ⟨a, len, cap', m, n, D, Pl, hcs, _, hlc, hcm, hmm, hxx, hx⟩
  · simp only [List.cons.injEq, and_true] at hcs
    rw [hv] at hcs
    injection hcs with _ e _
    have := bulk_one x.1
    omega
  · simp only [List.cons.injEq, and_true] at hcs
    rw [hv] at hcs
    injection hcs with _ e _
    have hle : len ≤ m := by rw [hmm]; split <;> omega
    rw [hxx]
    have h3 := bulk_len ((List.range len).map D)
    rw [List.length_map, List.length_range] at h3
    show l.length ≤ Rows.uptoBulkAll _ + Rows.uptoBulkAll _ + 1
    omega
theorem upto_bound {H : Type} {l : List (DataW H)} (h : Rows.uptoSmall H l = true) : Rows.uptoBulkAll l ≤ 1048576 := of_decide_eq_true h
theorem witness_rowH {H : Type} {enc : TypeId × Value → H} {os : Os} {f : FuncId} {fn : Func} {s : OpenSpec} (args : Array Value)
    (hok : Input.okWideB Tryd.checked.prog ((World.doorLaid Tryd.prog 400 os).forCall (fun _ _ => 0) ⟨#[], args, []⟩) f ⟨#[], args, []⟩ = true)
    (hrow : s.preRow enc Tryd.checked.prog fn [] false laidH ((World.doorLaid Tryd.prog 400 os).forCall (fun _ _ => 0) ⟨#[], args, []⟩).memory args) :
    ∃ (w : World) (tape : Tape) (i : Input), w.os = os ∧ (w.forCall tape i).Shaped Tryd.checked.prog ∧ i.vars = [] ∧ Input.okWide Tryd.checked.prog (w.forCall tape i) .any w.heap.size f i ∧
      s.preRow enc Tryd.checked.prog fn [] false laidH (w.forCall tape i).memory i.args ∧ ({} : Assume).holds Tryd.checked.prog (lone (Frame.enter Tryd.checked.prog f i.args .normal) [] (w.forCall tape i)) :=
  ⟨World.doorLaid Tryd.prog 400 os, fun _ _ => 0, ⟨#[], args, []⟩, rfl, World.shaped_of_RefB (by kernel_rfl) (by kernel_rfl), (Input.okWide_of_okWideB (base := 0) hok).1, (Input.okWide_of_okWideB hok).2, hrow, by
    simp only [Assume.holds]
    exact ⟨by simp, by simp, fun _ => Modest.zero, by simp, by simp⟩⟩
end Go.Proofs.YtkmljbbnpjlehaaDoor
