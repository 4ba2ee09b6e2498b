/- What slices.DeleteFunc with the closure of package cookie's Put answers over a row of the call's own, at most 2^20 cookies. -/
import Derived.Test.YtpdilhnbbokipaaDoorCl
import Derived.Deep.DeepCutAuto
namespace Go.Proofs.YtpdilhnbbokipaaDoor
set_option maxRecDepth 8000
open Go.RowKit

section
variable {w : World} {base g n cap : Nat}
/-- A shorter slice of a row of the call's own. -/
theorem own_cut {e : TypeId} {size : Nat} {xs : List Value} (h : w.ownsRow base e size (.slice (some ⟨g, 0, none⟩) n cap) n xs) (i : Nat) (hi : i ≤ n) : w.ownsRow base e size (.slice (some ⟨g, 0, none⟩) i cap) i (xs.take (i * size)) := by
  rcases h.2 with ⟨h', _⟩ | ⟨g', cap', cur, h', hb, hg, hnc, hcm, hcs, htake⟩
  · simp at h'
  · simp only [Value.slice.injEq, Option.some.injEq, Addr.mk.injEq, and_true, true_and] at h'
    obtain ⟨rfl, rfl⟩ := h'
    have hle : i * size ≤ n * size := Nat.mul_le_mul_right _ hi
    refine ⟨by rw [List.length_take, h.1]; omega, .inr ⟨g, cap, cur, rfl, hb, hg, by omega, hcm, hcs, ?_⟩⟩
    rw [← htake, List.take_take, Nat.min_eq_left hle]
theorem own_sets {e : TypeId} {size : Nat} {xs : List Value} : ∀ (vs : List Value) (o : Nat) (w : World), w.ownsRow base e size (.slice (some ⟨g, 0, none⟩) n cap) n xs → xs.length ≤ o → (w.setCells g o vs).ownsRow base e size (.slice (some ⟨g, 0, none⟩) n cap) n xs
  | [], _, _, h, _ => h
  | v :: r, o, w, h, ho => by
    have := (h.stored o v).1
    rw [List.set_eq_of_length_le ho] at this
    exact own_sets r (o + 1) _ this (by omega)
theorem below_sets {B : Nat} (hB : B ≤ g) : ∀ (vs : List Value) (o : Nat) {a w : World}, Below B a w → Below B a (w.setCells g o vs)
  | [], _, _, _, h => h
  | v :: r, o, _, _, h => below_sets hB r (o + 1) (h.setCell (p := ⟨g, o, none⟩) hB v)
end

theorem set6 (c : Ck.C) : ∀ (m : List Ck.C) (i : Nat), i < m.length → cells6 (m.set i c) = ((((((cells6 m).set (i * 6) (.string (S c.name))).set (i * 6 + 1) (.string (S c.val))).set (i * 6 + 2) (.string (S c.path))).set (i * 6 + 3) (.int .i64 c.age)).set (i * 6 + 4) (.bool c.sec)).set (i * 6 + 5) (.bool c.http)
  | [], i, h => absurd h (by simp)
  | x :: r, 0, _ => by
    rw [List.set_cons_zero, cells6_cons, cells6_cons]
    simp [cellsC]
  | x :: r, i + 1, h => by
    have ih := set6 c r i (by simpa using h)
    rw [List.set_cons_succ, cells6_cons, ih, cells6_cons]
    have e : ∀ (k : Nat) (y : Value) (z : List Value), (cellsC x ++ z).set (6 + k) y = cellsC x ++ z.set k y := fun k y z => by
      rw [List.set_append_right _ _ (by show 6 ≤ 6 + k; omega)]
      show cellsC x ++ z.set (6 + k - 6) y = _
      rw [Nat.add_sub_cancel_left]
    rw [show (i + 1) * 6 = 6 + i * 6 by omega, e, show 6 + i * 6 + 1 = 6 + (i * 6 + 1) by omega, e, show 6 + i * 6 + 2 = 6 + (i * 6 + 2) by omega, e, show 6 + i * 6 + 3 = 6 + (i * 6 + 3) by omega, e, show 6 + i * 6 + 4 = 6 + (i * 6 + 4) by omega, e, show 6 + i * 6 + 5 = 6 + (i * 6 + 5) by omega, e]

/-- One cookie stored into a row of the call's own. -/
theorem crow_set {w : World} {base g cap : Nat} {m : List Ck.C} (h : CRow base w (.slice (some ⟨g, 0, none⟩) m.length cap) m) (i : Nat) (hi : i < m.length) (c : Ck.C) :
    CRow base ((((((w.setCell ⟨g, i * 6, none⟩ (.string (S c.name))).setCell ⟨g, i * 6 + 1, none⟩ (.string (S c.val))).setCell ⟨g, i * 6 + 2, none⟩ (.string (S c.path))).setCell ⟨g, i * 6 + 3, none⟩ (.int .i64 c.age)).setCell ⟨g, i * 6 + 4, none⟩ (.bool c.sec)).setCell ⟨g, i * 6 + 5, none⟩ (.bool c.http)) (.slice (some ⟨g, 0, none⟩) m.length cap) (m.set i c) := by
  unfold CRow at h ⊢
  rw [List.length_set, set6 c m i hi]
  exact ((((((h.stored (i * 6) _).1.stored (i * 6 + 1) _).1.stored (i * 6 + 2) _).1.stored (i * 6 + 3) _).1.stored (i * 6 + 4) _).1.stored (i * 6 + 5) _).1

abbrev z6 : Value := .agg #[.string ⟨#[]⟩, .string ⟨#[]⟩, .string ⟨#[]⟩, .int .i64 0, .bool false, .bool false]
theorem zeros_one (n : Nat) : ∀ v ∈ (Builtin.zeroCells z6.cells n).toList, v.oneCell' = true := by
  intro v hv
  unfold Builtin.zeroCells at hv
  simp at hv
  obtain ⟨i, _, rfl⟩ := hv
  have hz : z6.cells.size = 6 := rfl
  have : i % 6 < 6 := Nat.mod_lt _ (by omega)
  have hall : ∀ k, k < 6 → (z6.cells[k]!).oneCell' = true := by decide +kernel
  rw [hz]
  exact hall _ this
/-- 'clear(s)' of cookies: some cells from its first one on are written. -/
theorem run_clear6 (w : World) (ty : TypeId) (g o n c : Nat) (hn : 0 < n) (hc : ∀ j, j < n * 6 → (w.cell? ⟨g, o + j, none⟩).isSome = true) (hf : ∀ j, w.frozen? ⟨g, o + j, none⟩ = false) :
    (Builtin.clear_ #[42] ty #[.slice (some ⟨g, o, none⟩) n c]).run Tryd.prog w = .ok (.tuple #[]) (w.setCells g o (Builtin.zeroCells z6.cells n).toList) := by
  have hl : (Builtin.zeroCells z6.cells n).toList.length = n * 6 := by simp [Builtin.zeroCells]; rfl
  have hst := run_storeCells_cells (P := Tryd.prog) g o (Builtin.zeroCells z6.cells n).toList 0 w (by rw [hl]; exact hc) (fun j _ => hf j) (zeros_one n)
  simp only [Nat.add_zero] at hst
  obtain ⟨m, rfl⟩ : ∃ m, n = m + 1 := ⟨n - 1, by omega⟩
  simp [Builtin.clear_, run_underlying Tryd.underlying42]
  rw [hst]
  rfl

/-- What has been gone through. -/
structure DInv (c : Ck.C) (l m : List Ck.C) (i j : Nat) : Prop where
  len : m.length = l.length
  lt : i < j
  le : j ≤ l.length
  head : m.take i = (l.take j).filter fun old => !Ck.same c old
  tail : m.drop j = l.drop j
section
variable {c : Ck.C} {l m : List Ck.C} {i j : Nat}
theorem DInv.start {k : Nat} (hk : k < l.length) (hs : Ck.same c l[k] = true) (hall : ∀ j (hj : j < l.length), j < k → Ck.same c l[j] = false) : DInv c l l k (k + 1) := by
  refine ⟨rfl, Nat.lt_succ_self _, hk, ?_, rfl⟩
  rw [List.take_succ_eq_append_getElem hk, List.filter_append, List.filter_eq_self.2]
  · simp [hs]
  · intro x hx
    obtain ⟨q, hq, rfl⟩ := List.getElem_of_mem hx
    rw [List.length_take] at hq
    rw [List.getElem_take, hall q (by omega) (by omega)]
    rfl
theorem DInv.at (h : DInv c l m i j) (hj : j < l.length) : ∃ hm : j < m.length, m[j] = l[j] := by
  have hm : j < m.length := by rw [h.len]; exact hj
  refine ⟨hm, ?_⟩
  have := congrArg List.head? h.tail
  rw [List.drop_eq_getElem_cons hm, List.drop_eq_getElem_cons hj] at this
  exact Option.some.inj this
theorem DInv.skip (h : DInv c l m i j) (hj : j < l.length) (hs : Ck.same c l[j] = true) : DInv c l m i (j + 1) := by
  refine ⟨h.len, by have := h.lt; omega, hj, ?_, ?_⟩
  · rw [List.take_succ_eq_append_getElem hj, List.filter_append, h.head]
    simp [hs]
  · rw [← List.drop_drop, h.tail, List.drop_drop]
theorem DInv.keep (h : DInv c l m i j) (hj : j < l.length) (hs : Ck.same c l[j] = false) : DInv c l (m.set i l[j]) (i + 1) (j + 1) := by
  have hlt := h.lt
  have hi : i < m.length := by rw [h.len]; omega
  refine ⟨by rw [List.length_set]; exact h.len, by omega, hj, ?_, ?_⟩
  · rw [List.take_succ_eq_append_getElem (by rw [List.length_set]; exact hi), List.take_succ_eq_append_getElem hj, List.filter_append, ← h.head]
    simp [hs, List.take_set_of_le]
  · rw [List.drop_set_of_lt (by omega), ← List.drop_drop, h.tail, List.drop_drop]
theorem DInv.done (h : DInv c l m i j) (hj : j = l.length) : m.take i = Ck.rest l c := by
  rw [h.head, hj, List.take_of_length_le (Nat.le_refl _)]
  rfl
end
theorem rest_all {c : Ck.C} {l : List Ck.C} (h : ∀ j (hj : j < l.length), Ck.same c l[j] = false) : Ck.rest l c = l := by
  unfold Ck.rest
  rw [List.filter_eq_self]
  intro x hx
  obtain ⟨j, hj, rfl⟩ := List.getElem_of_mem hx
  rw [h j hj]
  rfl
theorem take6 (m : List Ck.C) (i : Nat) : (cells6 m).take (i * 6) = cells6 (m.take i) := by
  rcases Nat.lt_or_ge i m.length with h | h
  · have e : m = m.take i ++ m.drop i := (List.take_append_drop i m).symm
    conv => lhs; rw [e]
    rw [cells6_append, List.take_append_of_le_length (by rw [cells6_len, List.length_take]; omega), List.take_of_length_le (by rw [cells6_len, List.length_take]; omega)]
  · rw [List.take_of_length_le (by rw [cells6_len]; omega), List.take_of_length_le h]

set_option maxHeartbeats 1600000 in
theorem deleteFunc_any (c : Ck.C) (k : Nat) (v : Value) (l : List Ck.C) (w : World) (base : Nat) (hB : Blk6 w k c) (hkb : k < base) (hbase : base ≤ w.heap.size) (hrow : CRow base w v l) (hl : l.length ≤ 1048576) :
    Calls Tryd.prog 45 #[v, predV k] w fun e w' => ∃ v', e = .returned v' ∧ CRow base w' v' (Ck.rest l c) ∧ Below base w w' := by
  obtain ⟨A, cap, rfl⟩ := hrow.form
  obtain ⟨A', cap', hv', hcc⟩ := hrow.reads
  have HIF := Lib.hid (indexFunc_any c k A cap l w hB (by injection hv' with h1 h2 h3; subst h1; exact hcc) hl)
  clear hv' hcc
  go_enter Tryd.func45, Tryd.ntmps45
  go_wp2_with fail
  refine HIF.out.mono ?_
  rintro e w1 ⟨r, rfl, hfound, hb1⟩
  have hrow1 : CRow base w1 (.slice A l.length cap) l := own_below hrow hb1
  have hbw1 : Below base w w1 := hb1.mono hbase
  have HBW := Lib.hid hB
  clear hrow hb1 hB HIF
  rcases hfound with ⟨rfl, hall⟩ | ⟨k0, hk0, rfl, hs0, hall⟩
  · have HR := Lib.hid (rest_all hall)
    clear hall
    go_wp2
    go_ret
    exact ⟨_, rfl, by rw [HR.out]; exact hrow1, hbw1⟩
  · have HD0 := Lib.hid (DInv.start hk0 hs0 hall)
    clear hall hs0
    have e0 : ((k0 : Int) == -1) = false := beq_eq_false_iff_ne.2 (by omega)
    obtain ⟨g, hgA, hbg⟩ : ∃ g, A = some ⟨g, 0, none⟩ ∧ base ≤ g := by
      rcases hrow1.2 with ⟨h, h0⟩ | ⟨g, cap', cur, hv, hb, _⟩
      · omega
      · injection hv with h1 h2 h3
        exact ⟨g, h1, hb⟩
    subst hgA
    go_wp2
    go_loopw [5, 6] (fun s5 s6 wr => ∃ (i j : Nat) (m : List Ck.C), s5 = .int .i64 i ∧ s6 = .int .i64 j ∧ DInv c l m i j ∧ CRow base wr (.slice (some ⟨g, 0, none⟩) l.length cap) m ∧ Below base w wr) (fun _ s6 _ => l.length - (intOf s6).toNat)
    case atStart => exact ⟨k0, k0 + 1, l, rfl, by go_num, HD0.out, hrow1, hbw1⟩
    case round =>
      obtain ⟨i, j, m, rfl, rfl, hinv, hrow, hb⟩ := hrel
      have hij := hinv.lt
      have hjl := hinv.le
      have hml := hinv.len
      have HI := Lib.hid hinv
      have HML := Lib.hid hml
      clear hinv hml
      have hbs := hb.size
      have hbs' : base ≤ wr.heap.size := Nat.le_trans hbase hbs
      have hB' : Blk6 wr k c := HBW.out.below hb hkb
      have hrow' : wr.ownsRow base 32 6 (.slice (some ⟨g, 0, none⟩) l.length cap) l.length (cells6 m) := by
        have := hrow
        unfold CRow at this
        rw [HML.out] at this
        exact this
      have n0 : (0 : Int) ≤ (i : Int) := by omega
      have n1 : (i : Int) < (l.length : Int) := by omega
      by_cases hlt : j < l.length
      · obtain ⟨hmj, hmx⟩ := HI.out.at hlt
        have hat : At6 wr g (j * 6) l[j] := fun q u hu => by
          have hq : q < 6 := (List.getElem?_eq_some_iff.1 hu).1
          rw [hrow'.cellAt (j * 6 + q) (by omega), cells6_at m j hmj q hq, hmx]
          exact hu
        have HS := Lib.hid (rfl : Ck.same c l[j] = Ck.same c l[j])
        obtain ⟨x, hx⟩ : ∃ x, x = l[j] := ⟨_, rfl⟩
        rw [← hx] at hat
        have HX := Lib.hid hx
        clear hx hmx HS
        have d0 := hat.c0
        have d1 := hat.c1
        have d2 := hat.c2
        have d3 := hat.c3
        have d4 := hat.c4
        have d5 := hat.c5
        clear hat
        have m0 : (0 : Int) ≤ (j : Int) := by omega
        have m1 : (j : Int) < (l.length : Int) := by omega
        have hglt : g < wr.heap.size := (hrow'.lt g rfl).2
        go_upto_region 8 with fail
        have hW : Below wr.heap.size wr (wr.alloc (.cells #[.string (S x.name), .string (S x.val), .string (S x.path), .int .i64 x.age, .bool x.sec, .bool x.http] 32)) := (Below.refl _ _).alloc (Nat.le_refl _) _
        have hX := Blk6.new wr x
        have hsz : wr.heap.size < (wr.alloc (.cells #[.string (S x.name), .string (S x.val), .string (S x.path), .int .i64 x.age, .bool x.sec, .bool x.http] 32)).heap.size := by simp
        generalize (wr.alloc (.cells #[.string (S x.name), .string (S x.val), .string (S x.path), .int .i64 x.age, .bool x.sec, .bool x.http] 32)) = w2 at hW hX hsz ⊢
        clear d0 d1 d2 d3 d4 d5
        have d0 := hX.c0
        have d1 := hX.c1
        have d2 := hX.c2
        have d3 := hX.c3
        have d4 := hX.c4
        have d5 := hX.c5
        have hB2 : Blk6 w2 k c := hB'.below hW hB'.lt
        have hS := same_any c x k w2 hB2
        have hw2 : wr.heap.size ≤ w2.heap.size := hW.size
        go_wp2_with fail
        refine hS.mono ?_
        rintro e w3 ⟨rfl, hb3⟩
        have hW3 : Below wr.heap.size wr w3 := hW.trans (hb3.mono hw2)
        have hX3 : Blk6 w3 wr.heap.size x := hX.below hb3 hsz
        have hrow3 := own_below hrow' hW3
        have hb3' : Below base w w3 := hb.trans (hW3.mono hbs')
        clear d0 d1 d2 d3 d4 d5 hS hB2 hW hb3 hX
        cases hs : Ck.same c x with
        | true =>
          have HN := Lib.hid (HI.out.skip hlt (by rw [← HX.out]; exact hs))
          clear hs
          go_wp2
          go_roundw
          case rel => exact ⟨i, j + 1, m, rfl, by go_num, HN.out, by unfold CRow; rw [HML.out]; exact hrow3, hb3'⟩
          case measure => simp [intOf]; omega
        | false =>
          have HN := Lib.hid (HI.out.keep hlt (by rw [← HX.out]; exact hs))
          clear hs
          have him : i < m.length := by rw [HML.out]; omega
          have hat : At6 w3 g (i * 6) m[i] := fun q u hu => by
            have hq : q < 6 := (List.getElem?_eq_some_iff.1 hu).1
            rw [hrow3.cellAt (i * 6 + q) (by omega), cells6_at m i him q hq]
            exact hu
          have q0 := hat.c0
          have q1 := hat.c1
          have q2 := hat.c2
          have q3 := hat.c3
          have q4 := hat.c4
          have q5 := hat.c5
          have f0 := hrow3.frozenAt (i * 6)
          have f1 := hrow3.frozenAt (i * 6 + 1)
          have f2 := hrow3.frozenAt (i * 6 + 2)
          have f3 := hrow3.frozenAt (i * 6 + 3)
          have f4 := hrow3.frozenAt (i * 6 + 4)
          have f5 := hrow3.frozenAt (i * 6 + 5)
          have d0 := hX3.c0
          have d1 := hX3.c1
          have d2 := hX3.c2
          have d3 := hX3.c3
          have d4 := hX3.c4
          have d5 := hX3.c5
          clear hat
          have HST := Lib.hid (show CRow base ((((((w3.setCell ⟨g, i * 6, none⟩ (.string (S x.name))).setCell ⟨g, i * 6 + 1, none⟩ (.string (S x.val))).setCell ⟨g, i * 6 + 2, none⟩ (.string (S x.path))).setCell ⟨g, i * 6 + 3, none⟩ (.int .i64 x.age)).setCell ⟨g, i * 6 + 4, none⟩ (.bool x.sec)).setCell ⟨g, i * 6 + 5, none⟩ (.bool x.http)) (.slice (some ⟨g, 0, none⟩) l.length cap) (m.set i x) by
            have hr : CRow base w3 (.slice (some ⟨g, 0, none⟩) m.length cap) m := by unfold CRow; rw [HML.out]; exact hrow3
            have := crow_set hr i him x
            rw [HML.out] at this
            exact this)
          have HBB := Lib.hid ((((((hb3'.setCell (p := ⟨g, i * 6, none⟩) hbg (.string (S x.name))).setCell (p := ⟨g, i * 6 + 1, none⟩) hbg (.string (S x.val))).setCell (p := ⟨g, i * 6 + 2, none⟩) hbg (.string (S x.path))).setCell (p := ⟨g, i * 6 + 3, none⟩) hbg (.int .i64 x.age)).setCell (p := ⟨g, i * 6 + 4, none⟩) hbg (.bool x.sec)).setCell (p := ⟨g, i * 6 + 5, none⟩) hbg (.bool x.http))
          go_wp2
          go_roundw
          case rel => exact ⟨i + 1, j + 1, m.set i x, by go_num, by go_num, by rw [HX.out]; exact HN.out, HST.out, HBB.out⟩
          case measure => simp [intOf]; omega
      · have hj : j = l.length := by omega
        have HR := Lib.hid (HI.out.done hj)
        have hcl : ∀ ty, (Builtin.clear_ #[42] ty #[.slice (some ⟨g, i * 6, none⟩) (l.length - i) (cap - i)]).run Tryd.prog wr = .ok (.tuple #[]) (wr.setCells g (i * 6) (Builtin.zeroCells z6.cells (l.length - i)).toList) := fun ty =>
          run_clear6 wr ty g (i * 6) (l.length - i) (cap - i) (by omega) (fun q hq => by
            rw [hrow'.cellAt (i * 6 + q) (by omega), List.getElem?_eq_getElem (by rw [cells6_len, HML.out]; omega)]
            rfl) (fun q => hrow'.frozenAt _)
        have HC := Lib.hid (show CRow base (wr.setCells g (i * 6) (Builtin.zeroCells z6.cells (l.length - i)).toList) (.slice (some ⟨g, 0, none⟩) i cap) (Ck.rest l c) by
          have h1 := own_cut hrow' i (by omega)
          rw [take6, HR.out] at h1
          have hlen : (Ck.rest l c).length = i := by
            rw [← HR.out, List.length_take, HML.out]
            omega
          unfold CRow
          rw [hlen]
          exact own_sets _ _ _ h1 (by rw [cells6_len, hlen]; exact Nat.le_refl _))
        have HB2 := Lib.hid (below_sets hbg (Builtin.zeroCells z6.cells (l.length - i)).toList (i * 6) hb)
        have c0 : i ≤ l.length := by omega
        have c1 : (i : Int) ≤ (l.length : Int) := by omega
        have c2 : (l.length : Int) ≤ (cap : Int) := by
          rcases hrow'.2 with ⟨h, h0⟩ | ⟨g', cap', cur, hv, hb, hg, hnc, _⟩
          · omega
          · injection hv with h1 h2 h3
            omega
        clear hB' hrow'
        generalize (wr.setCells g (i * 6) (Builtin.zeroCells z6.cells (l.length - i)).toList) = w9 at hcl HC HB2
        go_wp2
        go_ret
        exact ⟨_, rfl, HC.out, HB2.out⟩
end Go.Proofs.YtpdilhnbbokipaaDoor
