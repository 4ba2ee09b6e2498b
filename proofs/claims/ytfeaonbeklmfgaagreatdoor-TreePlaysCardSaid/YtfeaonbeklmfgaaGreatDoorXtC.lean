/- The document's Put and Drop of trees. Condition: each parent lies ahead of its kids; names of at most 2^30 bytes. -/
import Derived.Test.YtfeaonbeklmfgaaGreatDoorXtB
import Derived.Laws.EntriesVeiled
namespace Go.Proofs.YtfeaonbeklmfgaaGreatDoor
set_option maxRecDepth 8000
open Go.RowKit

/-- append(l, m...) of records. -/
theorem run_recs (W : World) (ty : TypeId) (base : Nat) (v : Value) (A : Option Addr) (n c : Nat) (l m : List Rk.R) (hm : m.length = n) (hown : RRow base W v l) (hc : RCells W W.heap.size A m) (hb : base ≤ W.heap.size) (hl : l.length + n ≤ 1048576) :
    ∃ v' W', (Builtin.append_ #[43, 43] ty #[v, .slice A n c]).run Tryz.prog W = .ok v' W' ∧ RRow base W' v' (l ++ m) ∧ W.grownBy W' v.ownBlock ∧ (v'.ownBlock = v.ownBlock ∨ v'.ownBlock = some W.heap.size) := by
  obtain ⟨i0, hi, hz0, hz1, hz2⟩ := info_parts Tryz.infoRec
  rcases Nat.eq_zero_or_pos n with h0 | h0
  · subst h0
    have hm0 : m = [] := List.length_eq_zero_iff.1 hm
    subst hm0
    refine ⟨v, W, ?_, by rw [List.append_nil]; exact hown, ⟨rfl, rfl, rfl, Nat.le_refl _, fun _ _ _ => rfl⟩, .inl rfl⟩
    rcases hown.2 with ⟨rfl, _⟩ | ⟨g, cap, cur, rfl, hbg, hg, hlc, _⟩
    · cases A <;> simp [Builtin.append_, run_underlying Tryz.underlying43, sizeOf, typeInfo, hi, Builtin.lenOf, Builtin.firstCells, loadCells, loadCellsFrom]
    · have hle : l.length ≤ cap := hlc
      cases A <;> simp [Builtin.append_, run_underlying Tryz.underlying43, sizeOf, typeInfo, hi, Builtin.lenOf, Builtin.firstCells, loadCells, loadCellsFrom, storeCells, hle]
  · obtain ⟨b, off, rfl, hlt, hcc⟩ := hc (by omega)
    obtain ⟨v', W', hr, h2, h3, h4, h5⟩ := run_append_own_at (P := Tryz.prog) W base 43 ty 30 i0 _ 10 120 Tryz.underlying43 hi hz0 hz1 hz2 rfl (by omega) v l.length (cells10 l) hown ⟨b, off, none⟩ n c (cells10 m) (by rw [cells10_len, hm]) (fun j u hu => by rw [Addr.add_mid]; exact hcc j u hu) (cells10_one m) (by unfold maxLen; omega) (by omega) hb
    refine ⟨v', W', hr, ?_, h3, h5⟩
    unfold RRow
    rw [List.length_append, cells10_append, hm]
    exact h2
theorem wpList_recs {W : World} {ops : Array Oper} {rest : List Oper} {o : Oper} {a : Act} {Q : Exit → Act → World → Prop} (hw : Region.wanted o (yielded ops a.tmps) = true) (s x : Operand) (base : Nat) (v : Value) (A : Option Addr) (n c : Nat) (l m : List Rk.R)
    (ho : o.op = .call { callee := .builtin .append, args := #[s, x], argTypes := #[43, 43] }) (hs : a.eval s = v) (hx : a.eval x = .slice A n c) (hm : m.length = n)
    (hown : RRow base W v l) (hc : RCells W W.heap.size A m) (hb : base ≤ W.heap.size) (hl : l.length + n ≤ 1048576)
    (h : ∀ v' W', RRow base W' v' (l ++ m) → W.grownBy W' v.ownBlock → (v'.ownBlock = v.ownBlock ∨ v'.ownBlock = some W.heap.size) → wpList Tryz.prog ops Q rest (a.put o.dst v') W') : wpList Tryz.prog ops Q (o :: rest) a W := by
  refine BigFrame.wpList_want hw fun K hK' => ?_
  obtain ⟨v', W', hr, h2, h3, h5⟩ := run_recs W o.type base v A n c l m hm hown hc hb hl
  unfold Oper.wp execOp
  simp only [ho, resolve, invoke, builtin, Sem.run_bind, Sem.run_pure, Result.andThen_ok, List.map_toArray, List.map_cons, List.map_nil, hs, hx, hr]
  exact hK' _ _ (h v' W' h2 h3 h5)
theorem step_recs {W : World} {ops : Array Oper} {o : Oper} {a : Act} {K : Act → World → Prop} {Q : Exit → Act → World → Prop} {E : Prop} (hgd : o.guard = none) (s x : Operand) (base : Nat) (v : Value) (A : Option Addr) (n c : Nat) (l m : List Rk.R)
    (ho : o.op = .call { callee := .builtin .append, args := #[s, x], argTypes := #[43, 43] }) (hs : a.eval s = v) (hx : a.eval x = .slice A n c) (hm : m.length = n)
    (hown : RRow base W v l) (hc : RCells W W.heap.size A m) (hb : base ≤ W.heap.size) (hl : l.length + n ≤ 1048576)
    (hK : ∀ v' W', RRow base W' v' (l ++ m) → W.grownBy W' v.ownBlock → (v'.ownBlock = v.ownBlock ∨ v'.ownBlock = some W.heap.size) → K (a.put o.dst v') W') : if Region.wanted o (yielded ops a.tmps) = true then Oper.wp Tryz.prog o a W K Q else E := by
  rw [if_pos (by simp [Region.wanted, hgd])]
  obtain ⟨v', W', hr, h2, h3, h5⟩ := run_recs W o.type base v A n c l m hm hown hc hb hl
  unfold Oper.wp execOp
  simp only [ho, resolve, invoke, builtin, Sem.run_bind, Sem.run_pure, Result.andThen_ok, List.map_toArray, List.map_cons, List.map_nil, hs, hx, hr]
  exact hK v' W' h2 h3 h5
theorem made_row (w : World) (base : Nat) (hb : base ≤ w.heap.size) : RRow base (w.alloc (.cells #[] 30)) (.slice (some ⟨w.heap.size, 0, none⟩) 0 0) [] := World.ownsRow_made w #[] 0 hb (Nat.zero_le _) (by simp)
theorem row_at10 {w : World} {base g cap n : Nat} {l : List Rk.R} (h : w.ownsRow base 30 10 (.slice (some ⟨g, 0, none⟩) n cap) n (cells10 l)) {j : Nat} (hj : j < l.length) : At10 w g (j * 10) l[j] := .of fun q u hu => by
  have hq : q < 10 := (List.getElem?_eq_some_iff.1 hu).1
  have hlen : n * 10 = l.length * 10 := by rw [← h.1, cells10_len]
  rw [h.cellAt (j * 10 + q) (by omega), cells10_at l j hj q hq]
  exact hu
/-- A copy with one record turned is laid in the tree's place for them. -/
theorem put_finX {G : Nat → Prop} {w w1 w5 : World} {T room g5 c5 : Nat} {l : List Rk.R} {u : Value} (h1 : w1.heap[T]? = some (.cells #[.int .i64 room, u] 46 (0, 0))) (hG : G T) (hb : Below w.heap.size w w1) (hb5 : Below w1.heap.size w1 w5) (hg : w.heap.size ≤ g5) {base : Nat} (hr : w5.ownsRow base 30 10 (.slice (some ⟨g5, 0, none⟩) l.length c5) l.length (cells10 l)) (j : Nat) (hj : j < l.length) (r : Rk.R) :
    (layAt w5 g5 (j * 10) r).cell? ⟨T, 1, none⟩ = some u ∧ (layAt w5 g5 (j * 10) r).frozen? ⟨T, 1, none⟩ = false ∧ XAt (OrT G w.heap.size ((layAt w5 g5 (j * 10) r).setCell ⟨T, 1, none⟩ (.slice (some ⟨g5, 0, none⟩) l.length c5)).heap.size) ((layAt w5 g5 (j * 10) r).setCell ⟨T, 1, none⟩ (.slice (some ⟨g5, 0, none⟩) l.length c5)) T room (l.set j r) ∧ OutT G w ((layAt w5 g5 (j * 10) r).setCell ⟨T, 1, none⟩ (.slice (some ⟨g5, 0, none⟩) l.length c5)) := by
  have hT := (Array.getElem?_eq_some_iff.1 h1).1
  have hr0 : RRow 0 w5 (.slice (some ⟨g5, 0, none⟩) l.length c5) l := own_base hr (fun _ _ => Nat.zero_le _)
  have h5 := (hb5.block T hT).trans h1
  have hne : T ≠ g5 := fun e => x_ne_row hr0 h5 (by rw [e]; rfl)
  have hlay : OutT (fun x => x = g5) w5 (layAt w5 g5 (j * 10) r) := layAt_out (F := fun x => x = g5) rfl w5 (j * 10) r
  have h6 := (hlay.block T (Nat.lt_of_lt_of_le hT hb5.size) hne).trans h5
  have hrow6 := rrow_set hr0 j hj r
  have ho : OutT G w (layAt w5 g5 (j * 10) r) := by
    have o1 : OutT G w w5 := OutT.of (hb.trans (hb5.mono hb.size))
    exact o1.trans hlay (fun _ _ h => h) (fun x hx h => by omega)
  have hst := XAt.store (G := G) (room := room) (cs := #[.int .i64 room, .slice (some ⟨g5, 0, none⟩) l.length c5]) h6 hrow6 hG ho (fun k hk => by
    simp [Value.ownBlock] at hk
    omega) rfl
  refine ⟨?_, frozen_of_row _ T 1 _ _ h6, hst⟩
  have := cell_of_row _ T 1 _ _ _ h6
  simpa using this
theorem rrow_at {base : Nat} {w : World} {v : Value} {l : List Rk.R} (h : RRow base w v ([] ++ l)) (hl : 0 < l.length) : ∃ g c, v = .slice (some ⟨g, 0, none⟩) l.length c ∧ base ≤ g := by
  rcases h.2 with ⟨_, h0⟩ | ⟨g, cp, cu, e, hbg, _⟩
  · simp at h0
    rw [h0] at hl
    simp at hl
  · exact ⟨g, cp, by rw [e]; simp, hbg⟩
set_option maxHeartbeats 3200000 in
theorem put_anyX {G : Nat → Prop} {w : World} {T room : Nat} {l : List Rk.R} (r : Rk.R) (h : XAt G w T room l) (hl : l.length ≤ 1000000) (hn : r.name.length ≤ 1073741824) (hp : r.parent.length ≤ 1073741824) :
    Calls Tryz.prog 12 #[.pointer (some ⟨T, 0, none⟩), recV r] w (StepX G w T room (Tr.put l r) (Tr.putE l r)) := by
  have HC := recAt_alloc w r
  obtain ⟨wb, hwb⟩ : ∃ wb, wb = w.alloc (.cells (recCs r) 30) := ⟨_, rfl⟩
  have hbb : Below w.heap.size w wb := by rw [hwb]; exact (Below.refl _ _).alloc (Nat.le_refl _) _
  have hsz : wb.heap.size = w.heap.size + 1 := by rw [hwb]; simp
  rw [← hwb, ← hsz] at HC
  have HRR := Lib.hid (refRight13_any r hn hp wb)
  have HPL := Lib.hid (fun (w' : World) (hb : Below wb.heap.size wb w') => at_anyX r.name (h.keep (hbb.trans (hb.mono hbb.size))) (Nat.le_trans hl (by omega)))
  have HE : Hid (Tr.putE l r = if Rk.right r = false then 1 else if h : Tr.pl l r.name < l.length then (if l[Tr.pl l r.name].parent = r.parent then 0 else 8) else 6) := Lib.hid rfl
  have HA : Hid (Tr.put l r = if Tr.putE l r = 0 then l.set (Tr.pl l r.name) r else l) := Lib.hid rfl
  have HT := Lib.hid h
  have HB := Lib.hid hbb
  have HLN := Lib.hid hl
  obtain ⟨q1, hq1⟩ : ∃ q, q = Rk.right r := ⟨_, rfl⟩
  rw [← hq1] at HE HRR
  clear hq1 hbb h hl hn hp
  obtain ⟨c0, c1, c2, c3, c4, c5, c6, c7, c8, c9⟩ := HC.out wb (Below.refl _ _)
  unfold recCs at hwb
  unfold recV at HRR ⊢
  go_enter Tryz.func12, Tryz.ntmps12
  go_upto_region 1 with fail
  rw [← hwb]
  clear hwb hsz
  go_wp2_with fail
  refine HRR.out.mono ?_
  rintro e w1 ⟨rfl, hb1⟩
  clear c0 c1 c2 c3 c4 c5 c6 c7 c8 c9 HRR
  cases q1 with
  | false =>
    have HE1 : Hid (Tr.putE l r = 1) := Lib.hid (by rw [HE.out, if_pos rfl])
    go_wp2_with fail
    go_ret
    have := StepX.same (c := 1) HT.out (HB.out.trans (hb1.mono HB.out.size)) (x := 1) rfl
    rw [HA.out, HE1.out]
    exact this
  | true =>
  obtain ⟨c0, c1, c2, c3, c4, c5, c6, c7, c8, c9⟩ := HC.out w1 hb1
  have HB1 := Lib.hid hb1
  go_wp2_with fail
  refine (HPL.out w1 HB1.out).mono ?_
  rintro _ _ ⟨rfl, rfl⟩
  clear HPL hb1
  by_cases hn : Tr.pl l r.name < l.length
  · have e1 : plI l r.name = (Tr.pl l r.name : Int) := by unfold plI; rw [if_pos hn]
    rw [e1]
    have hbt := HB.out.trans (HB1.out.mono HB.out.size)
    obtain ⟨v, t1, t2, t3, t4⟩ := HT.out.keep hbt
    obtain ⟨A, cap, rfl, hrc⟩ := t2.form
    obtain ⟨b, off, rfl, hblt, h6⟩ := hrc.at10 _ hn
    have tc1 := cell_of_row w1 T 1 _ _ _ t1
    simp only [List.getElem?_toArray, List.getElem?_cons_succ, List.getElem?_cons_zero] at tc1
    have hTlt : T < w1.heap.size := (Array.getElem?_eq_some_iff.1 t1).1
    have HTR := Lib.hid (And.intro t1 (And.intro t3 (And.intro hrc hTlt)))
    have HBT := Lib.hid hbt
    obtain ⟨j, hj⟩ : ∃ j, j = Tr.pl l r.name := ⟨_, rfl⟩
    have HJ := Lib.hid (And.intro hj hn)
    have HE2 : Hid (Tr.putE l r = if l[Tr.pl l r.name].parent = r.parent then 0 else 8) := Lib.hid (by rw [HE.out, if_neg (by decide), dif_pos hn])
    have i0 : (0 : Int) ≤ (j : Int) := by omega
    have i1 : (j : Int) < (l.length : Int) := by omega
    have hjl : j < l.length := by omega
    have hlpos : 0 < l.length := by omega
    generalize l[Tr.pl l r.name] = old at h6 HE2
    clear e1 t1 t2 t3 t4 hbt hrc hn HE
    rw [← hj] at h6 ⊢
    clear hj
    have HOLD := Lib.hid h6
    have o2 := h6.c2
    clear h6
    have hS := S_beq old.parent r.parent
    by_cases hpar : old.parent = r.parent
    · rw [decide_eq_true hpar] at hS
      have hS2 : ((S old.parent).toList != (S r.parent).toList) = false := by unfold bne; rw [hS]; rfl
      have HE1 : Hid (Tr.putE l r = 0) := Lib.hid (by rw [HE2.out, if_pos hpar])
      clear hpar
      go_wp2_with fail
      go_quiet (fail)
      have hbn : Below w1.heap.size w1 (w1.drewN nq) := below_drewN (Below.refl _ _) nq
      obtain ⟨w4, hw4⟩ : ∃ w4, w4 = w1.drewN nq := ⟨_, rfl⟩
      rw [← hw4] at hbn ⊢
      clear hw4
      have HB4 := Lib.hid hbn
      have tc4 := (hbn.cell (p := ⟨T, 1, none⟩) hTlt).trans tc1
      have hrc4 := HTR.out.2.2.1.next hbn
      have hal : Below w4.heap.size w4 (w4.alloc (.cells #[] 30)) := (Below.refl _ _).alloc (Nat.le_refl _) _
      have tc5 := (hal.cell (p := ⟨T, 1, none⟩) (Nat.lt_of_lt_of_le hTlt hbn.size)).trans tc4
      have hrow0 := made_row w4 w4.heap.size (Nat.le_refl _)
      have hrca := hrc4.next hal
      have hll := HLN.out
      clear tc1 o2 c0 c1 c2 c3 c4 c5 c6 c7 c8 c9 hbn
      go_wp2_with (at_builtin; refine wpList_recs (by rfl) (.tmp 29) (.tmp 33) w4.heap.size (.slice (some ⟨w4.heap.size, 0, none⟩) 0 0) (some ⟨b, off, none⟩) l.length cap [] l rfl rfl rfl rfl hrow0 hrca hal.size (by simp; omega) ?_; intro v5 w5 hr5 hg5 ha5; obtain ⟨g5, c5, rfl, hg5b⟩ := rrow_at hr5 hlpos; have hb5 : Below w4.heap.size w4 w5 := hal.grown hg5 hal.size (fun k hk => by simp [Value.ownBlock] at hk; omega); have hr5' : w5.ownsRow w4.heap.size 30 10 (.slice (some ⟨g5, 0, none⟩) l.length c5) l.length (cells10 l) := hr5; have f0 := hr5'.frozenAt (j * 10); have f1 := hr5'.frozenAt (j * 10 + 1); have f2 := hr5'.frozenAt (j * 10 + 2); have f3 := hr5'.frozenAt (j * 10 + 3); have f4 := hr5'.frozenAt (j * 10 + 4); have f5 := hr5'.frozenAt (j * 10 + 5); have f6 := hr5'.frozenAt (j * 10 + 6); have f7 := hr5'.frozenAt (j * 10 + 7); have f8 := hr5'.frozenAt (j * 10 + 8); have f9 := hr5'.frozenAt (j * 10 + 9); have hat5 := row_at10 hr5' hjl; obtain ⟨p0, p1, p2, p3, p4, p5, p6, p7, p8, p9⟩ := hat5; obtain ⟨c0, c1, c2, c3, c4, c5', c6, c7, c8, c9⟩ := HC.out w5 ((HB1.out.trans (HB4.out.mono HB1.out.size)).trans (hb5.mono (Nat.le_trans HB1.out.size HB4.out.size))); have hfin := put_finX HTR.out.1 HTR.out.2.1 HBT.out (HB4.out.trans (hb5.mono HB4.out.size)) (Nat.le_trans (Nat.le_trans HBT.out.size HB4.out.size) hg5b) hr5' j hjl r; have s1 := hfin.1; have s2 := hfin.2.1; unfold layAt at s1 s2; have HFIN := Lib.hid hfin.2.2; clear hfin hb5 hr5' hr5 hg5 ha5)
      go_ret
      rw [HA.out, HE1.out, if_pos rfl, ← HJ.out.1]
      exact ⟨rfl, HFIN.out⟩
    · rw [decide_eq_false hpar] at hS
      have hS2 : ((S old.parent).toList != (S r.parent).toList) = true := by unfold bne; rw [hS]; rfl
      have HE1 : Hid (Tr.putE l r = 8) := Lib.hid (by rw [HE2.out, if_neg hpar])
      clear hpar
      go_wp2_with fail
      go_quiet (fail)
      go_wp2_with fail
      go_ret
      have := StepX.same (c := 8) HT.out (below_drewN HBT.out nq) (x := 8) rfl
      rw [HA.out, HE1.out]
      exact this
  · have e1 : plI l r.name = -1 := by unfold plI; rw [if_neg hn]
    rw [e1]
    have HE1 : Hid (Tr.putE l r = 6) := Lib.hid (by rw [HE.out, if_neg (by decide), dif_neg hn])
    clear e1 hn
    go_wp2_with fail
    go_ret
    have := StepX.same (c := 6) HT.out (HB.out.trans (HB1.out.mono HB.out.size)) (x := 6) rfl
    rw [HA.out, HE1.out]
    exact this
end Go.Proofs.YtfeaonbeklmfgaaGreatDoor
