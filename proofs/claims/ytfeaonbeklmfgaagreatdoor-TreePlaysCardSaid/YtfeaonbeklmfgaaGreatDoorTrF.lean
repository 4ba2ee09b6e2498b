/- slices.Index and slices.Contains over texts; slices.DeleteFunc over records of a tree; package tree's Drop. Condition: each parent lies ahead of its kids. -/
import Derived.Test.YtfeaonbeklmfgaaGreatDoorTrE
import Derived.Deep.DeepCutAuto
namespace Go.Proofs.YtfeaonbeklmfgaaGreatDoor
set_option maxRecDepth 8000
open Go.RowKit

/-- A shorter slice of a row. -/
theorem rown_cut {w : World} {base g n cap : Nat} {e : TypeId} {size : Nat} {xs : List Value} (h : w.ownsRow base e size (.slice (some ⟨g, 0, none⟩) n cap) n xs) (i : Nat) (hi : i ≤ n) : w.ownsRow base e size (.slice (some ⟨g, 0, none⟩) i cap) i (xs.take (i * size)) := by
  rcases h.2 with ⟨h', _⟩ | ⟨g', cap', cur, h', hb, hg, hnc, hcm, hcs, htake⟩
  · simp at h'
  · simp only [Value.slice.injEq, Option.some.injEq, Addr.mk.injEq, and_true, true_and] at h'
    obtain ⟨rfl, rfl⟩ := h'
    have hle : i * size ≤ n * size := Nat.mul_le_mul_right _ hi
    refine ⟨by rw [List.length_take, h.1]; omega, .inr ⟨g, cap, cur, rfl, hb, hg, by omega, hcm, hcs, ?_⟩⟩
    rw [← htake, List.take_take, Nat.min_eq_left hle]
theorem rown_sets {base g n cap : Nat} {e : TypeId} {size : Nat} {xs : List Value} : ∀ (vs : List Value) (o : Nat) (w : World), w.ownsRow base e size (.slice (some ⟨g, 0, none⟩) n cap) n xs → xs.length ≤ o → (w.setCells g o vs).ownsRow base e size (.slice (some ⟨g, 0, none⟩) n cap) n xs
  | [], _, _, h, _ => h
  | v :: r, o, w, h, ho => by
    have := (h.stored o v).1
    rw [List.set_eq_of_length_le ho] at this
    exact rown_sets r (o + 1) _ this (by omega)
theorem outT_sets {g : Nat} {F : Nat → Prop} (hF : F g) : ∀ (vs : List Value) (o : Nat) (w : World), OutT F w (w.setCells g o vs)
  | [], _, w => OutT.refl F w
  | v :: r, o, w => (OutT.set v hF : OutT F w (w.setCell ⟨g, o, none⟩ v)).trans (outT_sets hF r (o + 1) _) (fun _ _ h => h) (fun _ _ h => h)
theorem set10 (c : Rk.R) : ∀ (m : List Rk.R) (i : Nat), i < m.length → cells10 (m.set i c) = (((((((((((cells10 m).set (i * 10) (.int .i64 c.kind)).set (i * 10 + 1) (.string (S c.name))).set (i * 10 + 2) (.string (S c.parent))).set (i * 10 + 3) (.string (S c.user))).set (i * 10 + 4) (.string (S c.service))).set (i * 10 + 5) (.string (S c.url))).set (i * 10 + 6) (.int .i64 c.made)).set (i * 10 + 7) (.int .i64 c.used)).set (i * 10 + 8) (.int .i64 c.uses)).set (i * 10 + 9) (.bool c.fresh))
  | [], i, h => absurd h (by simp)
  | x :: r, 0, _ => by
    rw [List.set_cons_zero, cells10_cons, cells10_cons]
    simp [cellsR]
  | x :: r, i + 1, h => by
    have ih := set10 c r i (by simpa using h)
    rw [List.set_cons_succ, cells10_cons, ih, cells10_cons]
    have e : ∀ (k : Nat) (y : Value) (z : List Value), (cellsR x ++ z).set (10 + k) y = cellsR x ++ z.set k y := fun k y z => by
      rw [List.set_append_right _ _ (by show 10 ≤ 10 + k; omega)]
      show cellsR x ++ z.set (10 + k - 10) y = _
      rw [Nat.add_sub_cancel_left]
    rw [show (i + 1) * 10 = 10 + i * 10 by omega, e, show 10 + i * 10 + 1 = 10 + (i * 10 + 1) by omega, e, show 10 + i * 10 + 2 = 10 + (i * 10 + 2) by omega, e, show 10 + i * 10 + 3 = 10 + (i * 10 + 3) by omega, e, show 10 + i * 10 + 4 = 10 + (i * 10 + 4) by omega, e, show 10 + i * 10 + 5 = 10 + (i * 10 + 5) by omega, e, show 10 + i * 10 + 6 = 10 + (i * 10 + 6) by omega, e, show 10 + i * 10 + 7 = 10 + (i * 10 + 7) by omega, e, show 10 + i * 10 + 8 = 10 + (i * 10 + 8) by omega, e, show 10 + i * 10 + 9 = 10 + (i * 10 + 9) by omega, e]
/-- A record laid at a place of a row. -/
def layAt (w : World) (g o : Nat) (c : Rk.R) : World := ((((((((((w.setCell ⟨g, o, none⟩ (.int .i64 c.kind)).setCell ⟨g, o + 1, none⟩ (.string (S c.name))).setCell ⟨g, o + 2, none⟩ (.string (S c.parent))).setCell ⟨g, o + 3, none⟩ (.string (S c.user))).setCell ⟨g, o + 4, none⟩ (.string (S c.service))).setCell ⟨g, o + 5, none⟩ (.string (S c.url))).setCell ⟨g, o + 6, none⟩ (.int .i64 c.made)).setCell ⟨g, o + 7, none⟩ (.int .i64 c.used)).setCell ⟨g, o + 8, none⟩ (.int .i64 c.uses)).setCell ⟨g, o + 9, none⟩ (.bool c.fresh))
theorem rrow_set {w : World} {base g cap : Nat} {m : List Rk.R} (h : RRow base w (.slice (some ⟨g, 0, none⟩) m.length cap) m) (i : Nat) (hi : i < m.length) (c : Rk.R) : RRow base (layAt w g (i * 10) c) (.slice (some ⟨g, 0, none⟩) m.length cap) (m.set i c) := by
  unfold RRow at h ⊢
  rw [List.length_set, set10 c m i hi]
  exact ((((((((((h.stored (i * 10) _).1.stored (i * 10 + 1) _).1.stored (i * 10 + 2) _).1.stored (i * 10 + 3) _).1.stored (i * 10 + 4) _).1.stored (i * 10 + 5) _).1.stored (i * 10 + 6) _).1.stored (i * 10 + 7) _).1.stored (i * 10 + 8) _).1.stored (i * 10 + 9) _).1
theorem layAt_out {F : Nat → Prop} {g : Nat} (hF : F g) (w : World) (o : Nat) (c : Rk.R) : OutT F w (layAt w g o c) := by
  have key : ∀ (w1 : World) (j : Nat) (v : Value), OutT F w w1 → OutT F w (w1.setCell ⟨g, j, none⟩ v) := fun w1 j v h => h.trans (OutT.set v hF) (fun _ _ h => h) (fun _ _ h => h)
  unfold layAt
  exact key _ _ _ (key _ _ _ (key _ _ _ (key _ _ _ (key _ _ _ (key _ _ _ (key _ _ _ (key _ _ _ (key _ _ _ (key _ _ _ (OutT.refl F w))))))))))
theorem take10 (m : List Rk.R) (i : Nat) : (cells10 m).take (i * 10) = cells10 (m.take i) := by
  rcases Nat.lt_or_ge i m.length with h | h
  · have e : m = m.take i ++ m.drop i := (List.take_append_drop i m).symm
    conv => lhs; rw [e]
    rw [cells10_append, List.take_append_of_le_length (by rw [cells10_len, List.length_take]; omega), List.take_of_length_le (by rw [cells10_len, List.length_take]; omega)]
  · rw [List.take_of_length_le (by rw [cells10_len]; omega), List.take_of_length_le h]
abbrev z10 : Value := .agg #[.int .i64 0, .string ⟨#[]⟩, .string ⟨#[]⟩, .string ⟨#[]⟩, .string ⟨#[]⟩, .string ⟨#[]⟩, .int .i64 0, .int .i64 0, .int .i64 0, .bool false]
theorem zeros10 (n : Nat) : ∀ v ∈ (Builtin.zeroCells z10.cells n).toList, v.oneCell' = true := by
  intro v hv
  unfold Builtin.zeroCells at hv
  simp at hv
  obtain ⟨i, _, rfl⟩ := hv
  have hz : z10.cells.size = 10 := rfl
  have : i % 10 < 10 := Nat.mod_lt _ (by omega)
  have hall : ∀ k, k < 10 → (z10.cells[k]!).oneCell' = true := by decide +kernel
  rw [hz]
  exact hall _ this
/-- 'clear(s)' of records: some cells from its first one on are written. -/
theorem run_clear10 (w : World) (ty : TypeId) (g o n c : Nat) (hn : 0 < n) (hc : ∀ j, j < n * 10 → (w.cell? ⟨g, o + j, none⟩).isSome = true) (hf : ∀ j, w.frozen? ⟨g, o + j, none⟩ = false) :
    (Builtin.clear_ #[43] ty #[.slice (some ⟨g, o, none⟩) n c]).run Tryz.prog w = .ok (.tuple #[]) (w.setCells g o (Builtin.zeroCells z10.cells n).toList) := by
  have hl : (Builtin.zeroCells z10.cells n).toList.length = n * 10 := by simp [Builtin.zeroCells]; rfl
  have hst := run_storeCells_cells (P := Tryz.prog) g o (Builtin.zeroCells z10.cells n).toList 0 w (by rw [hl]; exact hc) (fun j _ => hf j) (zeros10 n)
  simp only [Nat.add_zero] at hst
  obtain ⟨m, rfl⟩ : ∃ m, n = m + 1 := ⟨n - 1, by omega⟩
  simp [Builtin.clear_, run_underlying Tryz.underlying43]
  rw [hst]
  rfl

/-- What has been gone through. -/
structure DInvR (p : Rk.R → Bool) (l m : List Rk.R) (i j : Nat) : Prop where
  len : m.length = l.length
  lt : i < j
  le : j ≤ l.length
  head : m.take i = (l.take j).filter fun old => !p old
  tail : m.drop j = l.drop j
section
variable {p : Rk.R → Bool} {l m : List Rk.R} {i j : Nat}
theorem DInvR.start {k : Nat} (hk : k < l.length) (hs : p l[k] = true) (hall : ∀ j (hj : j < l.length), j < k → p l[j] = false) : DInvR p l l k (k + 1) := by
  refine ⟨rfl, Nat.lt_succ_self _, hk, ?_, rfl⟩
  rw [List.take_succ_eq_append_getElem hk, List.filter_append, List.filter_eq_self.2]
  · simp [hs]
  · intro x hx
    obtain ⟨q, hq, rfl⟩ := List.getElem_of_mem hx
    rw [List.length_take] at hq
    rw [List.getElem_take, hall q (by omega) (by omega)]
    rfl
theorem DInvR.at (h : DInvR p l m i j) (hj : j < l.length) : ∃ hm : j < m.length, m[j] = l[j] := by
  have hm : j < m.length := by rw [h.len]; exact hj
  refine ⟨hm, ?_⟩
  have := congrArg List.head? h.tail
  rw [List.drop_eq_getElem_cons hm, List.drop_eq_getElem_cons hj] at this
  exact Option.some.inj this
theorem DInvR.skip (h : DInvR p l m i j) (hj : j < l.length) (hs : p l[j] = true) : DInvR p l m i (j + 1) := by
  refine ⟨h.len, by have := h.lt; omega, hj, ?_, ?_⟩
  · rw [List.take_succ_eq_append_getElem hj, List.filter_append, h.head]
    simp [hs]
  · rw [← List.drop_drop, h.tail, List.drop_drop]
theorem DInvR.keep (h : DInvR p l m i j) (hj : j < l.length) (hs : p l[j] = false) : DInvR p l (m.set i l[j]) (i + 1) (j + 1) := by
  have hlt := h.lt
  have hi : i < m.length := by rw [h.len]; omega
  refine ⟨by rw [List.length_set]; exact h.len, by omega, hj, ?_, ?_⟩
  · rw [List.take_succ_eq_append_getElem (by rw [List.length_set]; exact hi), List.take_succ_eq_append_getElem hj, List.filter_append, ← h.head]
    simp [hs, List.take_set_of_le]
  · rw [List.drop_set_of_lt (by omega), ← List.drop_drop, h.tail, List.drop_drop]
theorem DInvR.done (h : DInvR p l m i j) (hj : j = l.length) : m.take i = l.filter fun old => !p old := by
  rw [h.head, hj, List.take_of_length_le (Nat.le_refl _)]
end
theorem filter_all {p : Rk.R → Bool} {l : List Rk.R} (h : ∀ j (hj : j < l.length), p l[j] = false) : (l.filter fun old => !p old) = l := by
  rw [List.filter_eq_self]
  intro x hx
  obtain ⟨j, hj, rfl⟩ := List.getElem_of_mem hx
  rw [h j hj]
  rfl
theorem PredOk.next {n k : Nat} {F : Nat → Prop} {w w' : World} {p : Rk.R → Bool} (h : PredOk n k F w p) (ho : OutT F w w') : PredOk n k F w' p := fun r w2 h2 => h r w2 (ho.trans h2 (fun _ _ h => h) (fun _ _ h => h))
theorem PredOk.sub {n k : Nat} {F G : Nat → Prop} {w : World} {p : Rk.R → Bool} (h : PredOk n k F w p) (hs : ∀ x, G x → F x) : PredOk n k G w p := fun r w2 h2 => h r w2 (h2.mono (fun x _ hx => hs x hx))
/-- What is left is told; of the row's block alone something is written. -/
def DelPost (w : World) (v : Value) (l' : List Rk.R) (e : Ending) (w' : World) : Prop :=
  ∃ v', e = .returned v' ∧ RRow 0 w' v' l' ∧ OutT (fun x => v.ownBlock = some x) w w' ∧ ∀ k, v'.ownBlock = some k → v.ownBlock = some k
set_option maxHeartbeats 3200000 in
theorem deleteR_any (n k : Nat) (hn : PredFn n) (p : Rk.R → Bool) (A : Option Addr) (cap : Nat) (l : List Rk.R) (w : World) (hP : PredOk n k (fun x => (Value.slice A l.length cap).ownBlock = some x) w p) (hrow : RRow 0 w (.slice A l.length cap) l) (hl : l.length ≤ 1048576) :
    Calls Tryz.prog 57 #[.slice A l.length cap, prV n k] w (DelPost w (.slice A l.length cap) (l.filter fun old => !p old)) := by
  obtain ⟨A', cap', hv', hcc⟩ := hrow.form
  obtain ⟨rfl, rfl⟩ : A' = A ∧ cap' = cap := by
    injection hv' with h1 h2 h3
    exact ⟨h1.symm, h3.symm⟩
  have HIF := Lib.hid (indexR_any n k hn p A' cap' l w (fun r w' ho => hP r w' (ho.mono (fun _ _ h => h.elim))) hcc hl)
  clear hv' hcc
  have HP := Lib.hid hP
  clear hP
  rcases hn with rfl | rfl
  all_goals
    go_enter Tryz.func57, Tryz.ntmps57
    go_wp2_with fail
    refine HIF.out.mono ?_
    rintro e w1 ⟨rfl, hb1⟩
    have hrow1 : RRow 0 w1 (.slice A' l.length cap') l := own_below hrow hb1
    have HP1 := Lib.hid (HP.out.next (OutT.of hb1))
    have HB1 := Lib.hid hb1
    clear hrow hb1 HIF HP
    by_cases hall : ∀ j (hj : j < l.length), p l[j] = false
    · have HR := Lib.hid (filter_all hall)
      rw [idxI_miss hall]
      clear hall
      go_wp2_with fail
      go_ret
      exact ⟨_, rfl, by rw [HR.out]; exact hrow1, OutT.of HB1.out, fun _ h => h⟩
    · obtain ⟨k0, hk0, hs0, hall0⟩ : ∃ (k0 : Nat) (hk : k0 < l.length), p l[k0] = true ∧ ∀ j (hj : j < l.length), j < k0 → p l[j] = false := by
        have hx : ∃ x ∈ l, p x = true := by
          rcases Classical.em (∃ x ∈ l, p x = true) with h | h
          · exact h
          · exact absurd (fun j hj => by
              cases hq : p l[j] with
              | false => rfl
              | true => exact absurd ⟨l[j], List.getElem_mem hj, hq⟩ h) hall
        have hlt := List.findIdx_lt_length.2 hx
        exact ⟨l.findIdx p, hlt, List.findIdx_getElem (w := hlt), fun j hj h => by
          have := List.not_of_lt_findIdx h
          simpa using this⟩
      rw [idxI_hit hk0 hs0 hall0]
      have HD0 := Lib.hid (DInvR.start hk0 hs0 hall0)
      clear hall hall0 hs0
      have e0 : ((k0 : Int) == -1) = false := beq_eq_false_iff_ne.2 (by omega)
      obtain ⟨g, hgA⟩ : ∃ g, A' = some ⟨g, 0, none⟩ := by
        rcases hrow1.2 with ⟨h, h0⟩ | ⟨g, cap', cur, hv, _⟩
        · omega
        · injection hv with h1 h2 h3
          exact ⟨g, h1⟩
      subst hgA
      have HO1 := Lib.hid (OutT.of (F := fun x => x = g) HB1.out)
      have HP2 := Lib.hid (HP1.out.sub (G := fun x => x = g) (fun x h => by rw [h]; rfl))
      clear HP1 HB1
      go_wp2_with fail
      go_loopw [5, 6] (fun s5 s6 wr => ∃ (i j : Nat) (m : List Rk.R), s5 = .int .i64 i ∧ s6 = .int .i64 j ∧ DInvR p l m i j ∧ RRow 0 wr (.slice (some ⟨g, 0, none⟩) l.length cap') m ∧ OutT (fun x => x = g) w1 wr) (fun _ s6 _ => l.length - (intOf s6).toNat)
      case atStart => exact ⟨k0, k0 + 1, l, rfl, by go_num, HD0.out, hrow1, OutT.refl _ _⟩
      case round =>
        clear hrow1
        obtain ⟨i, j, m, rfl, rfl, hI, hrow, ho⟩ := hrel
        have HI := Lib.hid hI
        have hij := hI.lt
        have hjl := hI.le
        have hml := hI.len
        have HML := Lib.hid hml
        clear hI
        have hrow' : wr.ownsRow 0 30 10 (.slice (some ⟨g, 0, none⟩) l.length cap') l.length (cells10 m) := by
          have := hrow
          unfold RRow at this
          rw [HML.out] at this
          exact this
        clear hml hrow
        have HO := Lib.hid ho
        have n0 : (0 : Int) ≤ (i : Int) := by omega
        have n1 : (i : Int) < (l.length : Int) := by omega
        have hglt : g < wr.heap.size := (hrow'.lt g rfl).2
        have HROW := Lib.hid hrow'
        by_cases hlt : j < l.length
        · obtain ⟨hmj, hmx⟩ := HI.out.at hlt
          have hat : At10 wr g (j * 10) l[j] := .of fun q u hu => by
            have hq : q < 10 := (List.getElem?_eq_some_iff.1 hu).1
            rw [hrow'.cellAt (j * 10 + q) (by omega), cells10_at m j hmj q hq, hmx]
            exact hu
          obtain ⟨x, hx⟩ : ∃ x, x = l[j] := ⟨_, rfl⟩
          rw [← hx] at hat
          have HX := Lib.hid hx
          clear hx hmx ho hrow'
          obtain ⟨d0, d1, d2, d3, d4, d5, d6, d7, d8, d9⟩ := hat
          have m0 : (0 : Int) ≤ (j : Int) := by omega
          have m1 : (j : Int) < (l.length : Int) := by omega
          have hW : Below wr.heap.size wr (wr.alloc (.cells (recCs x) 30)) := (Below.refl _ _).alloc (Nat.le_refl _) _
          have hX := heap_alloc_new wr (.cells (recCs x) 30)
          have hsz : wr.heap.size < (wr.alloc (.cells (recCs x) 30)).heap.size := by simp
          unfold recCs at hW hX hsz
          go_upto_region 8 with fail
          generalize (wr.alloc (.cells #[.int .i64 x.kind, .string (S x.name), .string (S x.parent), .string (S x.user), .string (S x.service), .string (S x.url), .int .i64 x.made, .int .i64 x.used, .int .i64 x.uses, .bool x.fresh] 30)) = w2 at hW hX hsz ⊢
          clear d0 d1 d2 d3 d4 d5 d6 d7 d8 d9
          have HS := Lib.hid (HP2.out x w2 (HO.out.trans (OutT.of (F := fun x => x = g) hW) (fun _ _ h => h) (fun _ _ h => h)))
          have HXB := Lib.hid hX
          have HW := Lib.hid hW
          have hw2 : wr.heap.size ≤ w2.heap.size := hW.size
          obtain ⟨d0, d1, d2, d3, d4, d5, d6, d7, d8, d9⟩ := recAt_blk hX
          clear hX hW
          go_wp2_with fail
          refine HS.out.mono ?_
          rintro e w3 ⟨rfl, hb3⟩
          have hW3 : Below wr.heap.size wr w3 := HW.out.trans (hb3.mono hw2)
          have hX3 := (hb3.block wr.heap.size hsz).trans HXB.out
          have hrow3 := own_below HROW.out hW3
          have HO3 := Lib.hid (HO.out.trans (OutT.of (F := fun x => x = g) hW3) (fun _ _ h => h) (fun _ _ h => h))
          clear d0 d1 d2 d3 d4 d5 d6 d7 d8 d9 HS HXB hb3 hW3
          cases hs : p x with
          | true =>
            have HN := Lib.hid (HI.out.skip hlt (by rw [← HX.out]; exact hs))
            have HR3 := Lib.hid hrow3
            clear hs hX3 hrow3
            go_wp2_with fail
            go_roundw
            case rel => exact ⟨i, j + 1, m, rfl, by go_num, HN.out, by unfold RRow; rw [HML.out]; exact HR3.out, HO3.out⟩
            case measure => simp [intOf]; omega
          | false =>
            have HN := Lib.hid (HI.out.keep hlt (by rw [← HX.out]; exact hs))
            have him : i < m.length := by rw [HML.out]; omega
            have hat : At10 w3 g (i * 10) m[i] := .of fun q u hu => by
              have hq : q < 10 := (List.getElem?_eq_some_iff.1 hu).1
              rw [hrow3.cellAt (i * 10 + q) (by omega), cells10_at m i him q hq]
              exact hu
            generalize m[i] = old at hat
            obtain ⟨q0, q1, q2, q3, q4, q5, q6, q7, q8, q9⟩ := hat
            have f0 := hrow3.frozenAt (i * 10)
            have f1 := hrow3.frozenAt (i * 10 + 1)
            have f2 := hrow3.frozenAt (i * 10 + 2)
            have f3 := hrow3.frozenAt (i * 10 + 3)
            have f4 := hrow3.frozenAt (i * 10 + 4)
            have f5 := hrow3.frozenAt (i * 10 + 5)
            have f6 := hrow3.frozenAt (i * 10 + 6)
            have f7 := hrow3.frozenAt (i * 10 + 7)
            have f8 := hrow3.frozenAt (i * 10 + 8)
            have f9 := hrow3.frozenAt (i * 10 + 9)
            obtain ⟨d0, d1, d2, d3, d4, d5, d6, d7, d8, d9⟩ := recAt_blk hX3
            have HST := Lib.hid (show RRow 0 (layAt w3 g (i * 10) x) (.slice (some ⟨g, 0, none⟩) l.length cap') (m.set i x) from by
              have hr : RRow 0 w3 (.slice (some ⟨g, 0, none⟩) m.length cap') m := by unfold RRow; rw [HML.out]; exact hrow3
              have := rrow_set hr i him x
              rw [HML.out] at this
              exact this)
            have HBB := Lib.hid (HO3.out.trans (layAt_out (F := fun x => x = g) rfl w3 (i * 10) x) (fun _ _ h => h) (fun _ _ h => h))
            clear hs hX3 hrow3 HO3
            go_wp2_with fail
            go_roundw
            case rel => exact ⟨i + 1, j + 1, m.set i x, by go_num, by go_num, by rw [HX.out]; exact HN.out, HST.out, HBB.out⟩
            case measure => simp [intOf]; omega
        · have hj : j = l.length := by omega
          have HR := Lib.hid (HI.out.done hj)
          have hcl : ∀ ty, (Builtin.clear_ #[43] ty #[.slice (some ⟨g, i * 10, none⟩) (l.length - i) (cap' - i)]).run Tryz.prog wr = .ok (.tuple #[]) (wr.setCells g (i * 10) (Builtin.zeroCells z10.cells (l.length - i)).toList) := fun ty =>
            run_clear10 wr ty g (i * 10) (l.length - i) (cap' - i) (by omega) (fun q hq => by
              rw [hrow'.cellAt (i * 10 + q) (by omega), List.getElem?_eq_getElem (by rw [cells10_len, HML.out]; omega)]
              rfl) (fun q => hrow'.frozenAt _)
          have HC := Lib.hid (show RRow 0 (wr.setCells g (i * 10) (Builtin.zeroCells z10.cells (l.length - i)).toList) (.slice (some ⟨g, 0, none⟩) i cap') (l.filter fun old => !p old) from by
            have h1 := rown_cut hrow' i (by omega)
            rw [take10, HR.out] at h1
            have hlen : (l.filter fun old => !p old).length = i := by
              rw [← HR.out, List.length_take, HML.out]
              omega
            unfold RRow
            rw [hlen]
            exact rown_sets _ _ _ h1 (by rw [cells10_len, hlen]; exact Nat.le_refl _))
          have HB2 := Lib.hid (HO.out.trans (outT_sets (F := fun x => x = g) rfl (Builtin.zeroCells z10.cells (l.length - i)).toList (i * 10) wr) (fun _ _ h => h) (fun _ _ h => h))
          have c0 : i ≤ l.length := by omega
          have c1 : (i : Int) ≤ (l.length : Int) := by omega
          have c2 : (l.length : Int) ≤ (cap' : Int) := by
            rcases hrow'.2 with ⟨h, h0⟩ | ⟨g', cap', cur, hv, hb, hg, hnc, _⟩
            · omega
            · injection hv with h1 h2 h3
              omega
          clear hrow' ho HROW
          generalize (wr.setCells g (i * 10) (Builtin.zeroCells z10.cells (l.length - i)).toList) = w9 at hcl HC HB2
          go_wp2_with fail
          go_ret
          exact ⟨_, rfl, HC.out, HO1.out.trans HB2.out (fun x _ h => by rw [h]; rfl) (fun x _ h => by rw [h]; rfl), fun q hq => hq⟩
end Go.Proofs.YtfeaonbeklmfgaaGreatDoor
