/- What the calls Sync and Crash of package disk do, for any disk. No condition. What the call Crash of package disk does, for any disk and any cuts. No condition. -/
import Derived.Test.YtkmljbbnpjlehaaDoorMg14
namespace Go.Proofs.YtkmljbbnpjlehaaDoor
set_option maxRecDepth 8000
open Go.RowKit

/-- A value of many cells goes into the middle of a row that is known whole. -/
theorem wp_store_splice {P : Program} {op : Oper} {a : Act} {w : World} {K : Act → World → Prop} {Q : Exit → Act → World → Prop} (ty : TypeId) (x y : Operand) (ho : op.op = .store ty x y) (b o : Nat) (cur : List Value) (t : TypeId) (hx : a.eval x = .pointer (some ⟨b, o, none⟩)) (cells : Array Value) (hy : a.eval y = .agg cells)
    (hg : w.heap[b]? = some (.cells cur.toArray t (0, 0))) (hfit : o + cells.size ≤ cur.length) (hi : (P.info? ty).map (·.size) = some cells.size) (h1 : cells.all (·.oneCell') = true)
    (h : K (a.put op.dst undef) (w.setRow b (splice cur o cells.toList).toArray)) : op.wp P a w K Q := by
  have hs := run_storeCells_at (P := P) b o t cells.toList 0 cur.toArray w hg (by simpa using hfit) (fun v hv => (Array.all_eq_true_iff_forall_mem.1 h1) v (by simpa using hv))
  have hv : (storeVar ty ⟨b, o, none⟩ (.agg cells)).run P w = .ok () (w.setRow b (splice cur o cells.toList).toArray) := by
    cases hq : P.info? ty with
    | none => simp [hq] at hi
    | some i =>
      have hs' : cells.size = i.size := by simp [hq] at hi; omega
      have e : w.setRow b (splice cur o cells.toList).toArray = w.setRow b (cur.toArray.toList.take (o + 0) ++ cells.toList ++ cur.toArray.toList.drop (o + 0 + cells.toList.length)).toArray := by
        simp [splice]
      rw [e]
      simp [storeVar, sizeOf, typeInfo, hq, Value.cells, hs']
      simpa [hs'] using hs
  unfold Oper.wp execOp
  simp only [ho, hx, hy, Instr.storeAt, Instr.sureAddr, Sem.run_bind, Sem.run_pure, Result.andThen_ok, hv]
  exact h
/-- copy, at an operation: a row that is known whole, a source that is some place. -/
theorem wp_copy_splice1 {P : Program} {o : Oper} {a : Act} {w : World} {K : Act → World → Prop} {Q : Exit → Act → World → Prop} (d s : Operand) (dT sT : TypeId)
    (ho : o.op = .call { callee := .builtin .copy, args := #[d, s], argTypes := #[dT, sT] }) (elem : TypeId) (hu : P.underlying dT = some (.slice elem)) (hsz : (P.info? elem).map (·.size) = some 1)
    (g off dLen dCap : Nat) (ad : Addr) (sLen sCap : Nat) (hd : a.eval d = .slice (some ⟨g, off, none⟩) dLen dCap) (hs : a.eval s = .slice (some ad) sLen sCap)
    (cur : List Value) (t : TypeId) (hg : w.heap[g]? = some (.cells cur.toArray t (0, 0))) (cs : List Value) (hn : cs.length = Nat.min sLen dLen)
    (hsrc : ∀ j v, cs[j]? = some v → w.cell? (ad.add j) = some v) (hfit : off + cs.length ≤ cur.length) (h1 : ∀ v ∈ cs, v.oneCell' = true)
    (h : K (a.put o.dst (goInt cs.length)) (w.setRow g (splice cur off cs).toArray)) : o.wp P a w K Q := by
  have hrun := run_copy_row (P := P) w dT sT o.type elem g off dLen dCap ad sLen sCap cur.toArray t cs hu hsz hg hn hsrc (by simpa using hfit) h1
  unfold Oper.wp
  simp [execOp, ho, resolve, invoke, builtin, hd, hs, hrun, Result.andThen]
  unfold splice at h
  exact h

/-- Only what is kept has changed. -/
theorem DAt.keptTo {w w' : World} {a : Mm} {d : Dk.D} (h : DAt w a d) (ht : There w a) (kp : List UInt8) (hl : kp.length = 32 * d.n) (hk : w'.heap[a.k]? = some (.cells (bcs kp).toArray 121 (0, 0))) (hs : ∀ x, x < w.heap.size → x ≠ a.k → w'.heap[x]? = w.heap[x]?) : DAt w' a { d with kept := kp } where
  ok := ⟨h.ok.n, hl, h.ok.st⟩
  disk := (hs a.P (ht.all _ ((mem_F a _).2 (.inl rfl))) h.Pk).trans h.disk
  kept := hk
  st := own_block h.st (fun b hb => hs b (ht.all b ((mem_F a _).2 (.inr (.inr (.inl hb))))) (fun e => h.kS (e ▸ hb)))
  plan := h.plan.past h.kept (by decide) hs
  cap := h.cap
  left := h.left
theorem lay_cells (kp : List UInt8) (at0 : Nat) (y : List UInt8) (q : Nat) : splice (bcs kp) (at0 * 32) (bcs (y.take q)) = bcs (Dk.lay kp (at0, y) q) := by
  rw [← bcs_splice, Nat.mul_comm]
  rfl
/-- In the middle of laying: what is kept is kp, all else of the disk as it was. -/
def Mid (w : World) (a : Mm) (d : Dk.D) (kp : List UInt8) (wr : World) : Prop := DAt wr a { d with kept := kp } ∧ There wr a ∧ Out [a.k] w wr
theorem Mid.alloc {w wr : World} {a : Mm} {d : Dk.D} {kp : List UInt8} (h : Mid w a d kp wr) (o : Obj) : Mid w a d kp (wr.alloc o) :=
  ⟨h.1.same (fun b hb => Below.heap_alloc wr o b (h.2.1.all b hb)), h.2.1.more (by simp), h.2.2.alloc o⟩
theorem Mid.drew {w wr : World} {a : Mm} {d : Dk.D} {kp : List UInt8} (h : Mid w a d kp wr) : Mid w a d kp wr.drew :=
  ⟨h.1.same (fun _ _ => rfl), ⟨h.2.1.all⟩, h.2.2.drew⟩
theorem Mid.set {w wr : World} {a : Mm} {d : Dk.D} {kp kq : List UInt8} (h : Mid w a d kp wr) (hl : kq.length = 32 * d.n) : Mid w a d kq (wr.setRow a.k (bcs kq).toArray) :=
  ⟨h.1.keptTo h.2.1 kq hl (setRow_heap wr a.k _ _ _ _ h.1.kept) (fun x _ hx => setRow_other wr a.k x _ hx), h.2.1.more (by simp),
    h.2.2.trans (G := [a.k]) ⟨rfl, rfl, rfl, by simp, fun b _ hb => setRow_other wr a.k b _ (by simpa using hb)⟩ (fun _ hx => .inl hx)⟩
theorem Mid.step {w wr : World} {a : Mm} {d : Dk.D} {kp : List UInt8} (h : Mid w a d kp wr) : Step w a { d with kept := kp } wr :=
  ⟨a, rfl, rfl, h.1, h.2.1, h.2.2.more (fun x hx => by rw [List.mem_singleton] at hx; rw [hx]; exact (mem_F a _).2 (.inr (.inl rfl))), fun _ hx => .inl hx⟩

theorem Step.via {w w1 w2 : World} {a a1 : Mm} {d2 : Dk.D} (hP : a1.P = a.P) (hk : a1.k = a.k) (ho : Out a.F w w1) (hF1 : ∀ x ∈ a1.F, x ∈ a.F ∨ w.heap.size ≤ x) (h2 : Step w1 a1 d2 w2) : Step w a d2 w2 := by
  obtain ⟨a2, p2, k2, at2, t2, o2, f2⟩ := h2
  refine ⟨a2, p2.trans hP, k2.trans hk, at2, t2, ho.trans o2 hF1, fun x hx => ?_⟩
  rcases f2 x hx with h | h
  · exact hF1 x h
  · exact .inr (Nat.le_trans ho.size h)

set_option maxHeartbeats 1600000 in
theorem sync_any (w : World) (a : Mm) (d : Dk.D) (h : DAt w a d) (ht : There w a) (hst : d.st.length ≤ 1048576) :
    Calls Tryd.prog 108 #[.pointer (some ⟨a.P, 0, none⟩)] w (ErrPost w a d.syncE d.sync) := by
  have HFA := fails_any w a d h ht
  cases hb : d.bad with
  | true =>
    have HE : Hid (∀ w', Step w a d.asked w' → ErrPost w a d.syncE d.sync (.returned (.int .i64 21)) w') := Lib.hid (fun w' hs => by
      unfold Dk.D.syncE Dk.D.sync
      rw [hb, if_pos rfl, if_pos rfl]
      exact ⟨rfl, hs⟩)
    rw [hb] at HFA
    clear hb
    go_enter Tryd.func108, Tryd.ntmps108
    go_wp2_with fail
    refine HFA.mono ?_
    rintro e w' ⟨rfl, hs⟩
    have HE2 := Lib.hid (HE.out _ hs)
    clear hs
    go_wp2
    go_ret
    exact HE2.out
  | false =>
    have HE : Hid (∀ w', Step w a { d.asked with kept := Dk.layAll d.kept d.st, st := [] } w' → ErrPost w a d.syncE d.sync (.returned (.int .i64 0)) w') := Lib.hid (fun w' hs => by
      unfold Dk.D.syncE Dk.D.sync
      rw [hb]
      exact ⟨rfl, hs⟩)
    rw [hb] at HFA
    clear hb
    have HST0 := Lib.hid (Dk.asked_st d)
    have HKE0 := Lib.hid (Dk.asked_kept d)
    rw [← HST0.out, ← HKE0.out] at HE
    rw [← HST0.out] at hst
    clear HST0 HKE0
    obtain ⟨d1, hd1⟩ : ∃ d1, d1 = d.asked := ⟨_, rfl⟩
    rw [← hd1] at HE HFA hst
    clear hd1
    go_enter Tryd.func108, Tryd.ntmps108
    go_wp2_with fail
    refine HFA.mono ?_
    rintro e w1 ⟨rfl, a1, hP1, hk1, hat1, ht1, ho1, hF1⟩
    have HFIN : Hid (∀ wr, Mid w1 a1 d1 (Dk.layAll d1.kept d1.st) wr → ErrPost w a d.syncE d.sync (.returned (.int .i64 0)) (wr.setCell ⟨a.P, 1, none⟩ (.slice none 0 0))) := Lib.hid (fun wr hm => by
      refine HE.out _ (Step.via hP1 hk1 ho1 hF1 ?_)
      rw [← hP1]
      exact Step.at ⟨hm.1, hm.2.1, hm.2.2.more (fun x hx => by rw [List.mem_singleton] at hx; rw [hx]; exact (mem_F a1 _).2 (.inr (.inl rfl)))⟩ (fun at2 t2 => step_drop at2 t2))
    have HM0 : Mid w1 a1 d1 d1.kept w1 := ⟨hat1, ht1, Out.refl _ _⟩
    have c1 := hat1.c.2.1
    rw [hP1] at c1
    have HD1 := Lib.hid hat1
    have HT1 := Lib.hid ht1
    have HP := Lib.hid hP1
    have HK := Lib.hid hk1
    obtain ⟨m, hm⟩ : ∃ m, m = d1.st.length := ⟨_, rfl⟩
    rw [← hm] at c1 hst
    have HM := Lib.hid hm
    clear hm hat1 ht1 h ht ho1 hF1 HE hk1 hP1 HFA
    obtain ⟨n, hn⟩ : ∃ n, n = d1.n := ⟨_, rfl⟩
    have hn512 : n ≤ 512 := by rw [hn]; exact HD1.out.ok.n
    have HN := Lib.hid hn
    clear hn
    go_wp2_with fail
    clear c1
    go_loopw [12] (fun iv wr => ∃ k : Nat, k ≤ m ∧ iv = .int .i64 k ∧ Mid w1 a1 d1 (Dk.layAll d1.kept (d1.st.take k)) wr) (fun iv _ => m - (intOf iv).toNat)
    case atStart => exact ⟨0, Nat.zero_le _, rfl, HM0⟩
    case round =>
      obtain ⟨k, hk, rfl, hmid⟩ := hrel
      by_cases hlt : k < m
      · have hkl : k < d1.st.length := by have := HM.out; omega
        obtain ⟨b, hb, hbl, hrange⟩ := range_st hmid.1 hkl
        have hok := HD1.out.ok.st _ (List.getElem_mem hkl)
        have HSN : Hid (Dk.layAll d1.kept (d1.st.take (k + 1)) = Dk.lay (Dk.layAll d1.kept (d1.st.take k)) d1.st[k] 32) := Lib.hid (by rw [List.take_succ_eq_append_getElem hkl, Dk.layAll_snoc])
        have hKL := Dk.layAll_ok (d1.st.take k) d1.kept HD1.out.ok.kept (fun s hs => HD1.out.ok.st s (List.mem_of_mem_take hs))
        dsimp only at hrange
        obtain ⟨⟨at0, y⟩, hs⟩ : ∃ s, s = d1.st[k] := ⟨_, rfl⟩
        rw [← hs] at hrange hok HSN
        dsimp only at hrange hok HSN
        obtain ⟨hok1, hok2⟩ := hok
        have hatn : at0 < n := by have := HN.out; omega
        have HY := Lib.hid hok2
        obtain ⟨kp, hkp⟩ : ∃ kp, kp = Dk.layAll d1.kept (d1.st.take k) := ⟨_, rfl⟩
        rw [← hkp] at hmid HSN hKL
        have HKL := Lib.hid hKL
        have hK2 : 32 * d1.n = 32 * n := by have := HN.out; omega
        have HKN := Lib.hid hK2
        have HLAY : Hid ((Dk.lay kp (at0, y) 32).length = 32 * d1.n) := Lib.hid (Dk.lay_ok 32 hKL hok1 hok2)
        clear hs hok1 hok2 hkp hkl hKL hK2
        have hbS : a1.S = some ⟨b, 0, none⟩ := hb
        rw [hbS]
        have hk0 : (0 : Int) ≤ (k : Int) := by omega
        have hkI : (k : Int) < (m : Int) := by omega
        have hat0 : (0 : Int) ≤ (at0 : Int) := by omega
        have hatI : (at0 : Int) < (n : Int) := by omega
        have hcs : (cS (at0 : Int) y).size = 33 := by rw [cS_size, HY.out]
        have HCS := Lib.hid hcs
        have HMID := Lib.hid hmid
        clear hcs hb hbS hmid
        go_wp2_with (first
          | ((with_reducible refine wpList_load_mid (op := ⟨some 15, _, _, _, _, _⟩) rfl 124 _ rfl b (k * 33) ?_ (.int .i64 (at0 : Int) :: bcs y) _ hrange Tryd.underlying124 rfl ?_ ?_); exact rfl; exact (by rw [List.length_cons, bcs_len, HY.out]; exact sizeStaged))
          | (with_reducible refine wpList_alloc_z (s := 4) 124 zS zS_run ?_)
          | ((with_reducible refine wpList_store_new 124 (.tmp 4) (.tmp 15) zS (cS at0 y) ?_ ?_ ?_ ?_ ?_ ?_); exact rfl; exact rfl; exact (by rw [HCS.out]; exact sizeStaged); exact (by rw [HCS.out]; rfl); exact (cS_one _ _)))
        clear hrange
        obtain ⟨g, hg⟩ : ∃ g, g = wr.heap.size := ⟨_, rfl⟩
        have g0 : (wr.alloc (.cells (cS at0 y) 124)).cell? ⟨g, 0, none⟩ = some (.int .i64 (at0 : Int)) := by rw [hg, cell_of_row _ wr.heap.size 0 _ _ _ (heap_alloc_new wr _)]; rfl
        have g1 : (wr.alloc (.cells (cS at0 y) 124)).rangeAt g 1 (bcs y) := by rw [hg]; exact range_new wr at0 y
        have hm2 := HMID.out.alloc (.cells (cS at0 y) 124)
        have hgk : g ≠ a1.k := by have := HMID.out.2.1.all _ ((mem_F a1 _).2 (.inr (.inl rfl))); omega
        rw [← hg]
        obtain ⟨wa, hwa⟩ : ∃ wa, wa = wr.alloc (.cells (cS at0 y) 124) := ⟨_, rfl⟩
        rw [← hwa] at g0 g1 hm2 ⊢
        have p0 := hm2.1.c.1
        have HKP := Lib.hid hm2.1.kept
        have hPk := hm2.1.Pk
        dsimp only at p0 HKP
        rw [HP.out, HK.out, ← HN.out] at p0
        rw [HK.out] at HKP hgk hPk
        rw [HP.out] at hPk
        have HM2 := Lib.hid hm2
        have HWS : Hid (wr.heap.size ≤ wa.heap.size) := Lib.hid (by rw [hwa]; simp)
        clear hwa hg hm2
        have hset : ∀ (u : Array Value) (p : Addr), p.block ≠ a.k → (wa.drew.setRow a.k u).cell? p = wa.drew.cell? p := fun u p hp => World.cell?_of_block (setRow_other wa.drew a.k p.block u hp)
        have kp0 := fun u => hset u ⟨a.P, 0, none⟩ hPk
        have kg0 := fun u => hset u ⟨g, 0, none⟩ hgk
        have kg1 := fun u q => hset u ⟨g, 1 + q, none⟩ hgk
        clear hset
        refine wp_region_held_drew (S := fun wx => wx.cell? ⟨a.P, 0, none⟩ = some (.slice (some ⟨a.k, 0, none⟩) n n) ∧ wx.cell? ⟨g, 0, none⟩ = some (.int .i64 (at0 : Int)) ∧ wx.rangeAt g 1 (bcs y)) (by kernel_rfl) ⟨p0, g0, g1⟩ (fun hHeld => ?_)
        refine wpAnyH_take (i := 0) (oi := ⟨_, _, _, _, _, _⟩) (v := .pointer (some ⟨a.P, 0, none⟩)) rfl (by kernel_rfl) (by kernel_rfl) (by kernel_rfl) (fun _ _ _ h => h) (Or.inl ⟨by rfl, by intro wx hSw; (try dsimp only at hSw); go_simp⟩) (by assumption) ?_
        simp only [Act.put, List.setIfInBounds_toArray, List.set_cons_zero, List.set_cons_succ]
        refine wpAnyH_take (i := 1) (oi := ⟨_, _, _, _, _, _⟩) (v := .pointer (some ⟨a.P, 0, none⟩)) rfl (by kernel_rfl) (by kernel_rfl) (by kernel_rfl) (fun _ _ _ h => h) (Or.inl ⟨by rfl, by intro wx hSw; (try dsimp only at hSw); go_simp⟩) (by assumption) ?_
        simp only [Act.put, List.setIfInBounds_toArray, List.set_cons_zero, List.set_cons_succ]
        refine wpAnyH_take (i := 2) (oi := ⟨_, _, _, _, _, _⟩) (v := .pointer (some ⟨a.P, 0, none⟩)) rfl (by kernel_rfl) (by kernel_rfl) (by kernel_rfl) (fun _ _ _ h => h) (Or.inl ⟨by rfl, by intro wx hSw; (try dsimp only at hSw); go_simp⟩) (by assumption) ?_
        simp only [Act.put, List.setIfInBounds_toArray, List.set_cons_zero, List.set_cons_succ]
        refine wpAnyH_take (i := 3) (oi := ⟨_, _, _, _, _, _⟩) (v := .slice (some ⟨a.k, 0, none⟩) n n) rfl (by kernel_rfl) (by kernel_rfl) (by kernel_rfl) (fun _ _ _ h => h) (Or.inl ⟨by rfl, by intro wx hSw; (try dsimp only at hSw); go_simp⟩) (by assumption) ?_
        simp only [Act.put, List.setIfInBounds_toArray, List.set_cons_zero, List.set_cons_succ]
        refine wpAnyH_take (i := 4) (oi := ⟨_, _, _, _, _, _⟩) (v := .pointer (some ⟨g, 0, none⟩)) rfl (by kernel_rfl) (by kernel_rfl) (by kernel_rfl) (fun _ _ _ h => h) (Or.inl ⟨by rfl, by intro wx hSw; (try dsimp only at hSw); go_simp⟩) (by assumption) ?_
        simp only [Act.put, List.setIfInBounds_toArray, List.set_cons_zero, List.set_cons_succ]
        refine wpAnyH_take (i := 5) (oi := ⟨_, _, _, _, _, _⟩) (v := .int .i64 (at0 : Int)) rfl (by kernel_rfl) (by kernel_rfl) (by kernel_rfl) (fun _ _ _ h => h) (Or.inl ⟨by rfl, by intro wx hSw; (try dsimp only at hSw); go_simp⟩) (by assumption) ?_
        simp only [Act.put, List.setIfInBounds_toArray, List.set_cons_zero, List.set_cons_succ]
        refine wpAnyH_take (i := 6) (oi := ⟨_, _, _, _, _, _⟩) (v := .pointer (some ⟨g, 1, none⟩)) rfl (by kernel_rfl) (by kernel_rfl) (by kernel_rfl) (fun _ _ _ h => h) (Or.inl ⟨by rfl, by intro wx hSw; (try dsimp only at hSw); go_simp⟩) (by assumption) ?_
        simp only [Act.put, List.setIfInBounds_toArray, List.set_cons_zero, List.set_cons_succ]
        refine wpAnyH_take (i := 7) (oi := ⟨_, _, _, _, _, _⟩) (v := .agg (cB y)) rfl (by kernel_rfl) (by kernel_rfl) (by kernel_rfl) (fun _ _ _ h => h) (yieldsIf_load_mid (by rfl) _ _ rfl g 1 rfl (bcs y) _ (fun _ hw => hw.2.2) Tryd.underlying121 rfl (by rw [bcs_len, HY.out]; exact sizeBlock)) (by assumption) ?_
        simp only [Act.put, List.setIfInBounds_toArray, List.set_cons_zero, List.set_cons_succ]
        refine wpAnyH_take (i := 8) (oi := ⟨_, _, _, _, _, _⟩) (v := .pointer (some ⟨a.k, at0 * 32, none⟩)) rfl (by kernel_rfl) (by kernel_rfl) (by kernel_rfl) (fun _ _ _ h => h) (Or.inl ⟨by rfl, by intro wx hSw; (try dsimp only at hSw); go_simp⟩) (by assumption) ?_
        simp only [Act.put, List.setIfInBounds_toArray, List.set_cons_zero, List.set_cons_succ]
        refine wpAnyH_ready (rs := [9]) (by kernel_rfl) (by simp) ?_
        refine AllReadyH.cons (o := ⟨_, _, _, _, _, _⟩) rfl (fun K hK => ?_) AllReadyH.nil
        rw [if_pos (by rfl)]
        refine wp_store_splice 121 _ _ rfl a.k (at0 * 32) (bcs kp) 121 rfl (cB y) rfl HKP.out (by have := HKN.out; rw [cB_size, bcs_len, HY.out, HKL.out]; omega) (by rw [cB_size, HY.out]; exact sizeBlock) (cB_one y) ?_
        refine hK.out _ _ ⟨(kp0 _).trans p0, (kg0 _).trans g0, fun q v hv => (kg1 _ _).trans (g1 q v hv)⟩ (fun hHeld => ?_)
        clear hK K
        simp only [Act.put]
        refine wpAnyH_done (by kernel_rfl) ?_ _
        clear hHeld p0 g0 g1 kp0 kg0 kg1
        have HM3 : Hid (Mid w1 a1 d1 (Dk.lay kp (at0, y) 32) (wa.drew.setRow a.k (splice (bcs kp) (at0 * 32) (cB y).toList).toArray)) := Lib.hid (by
          have e : splice (bcs kp) (at0 * 32) (cB y).toList = bcs (Dk.lay kp (at0, y) 32) := by
            rw [← lay_cells, List.take_of_length_le (by rw [HY.out]; exact Nat.le_refl _)]
            simp [cB]
          rw [e, ← HK.out]
          exact HM2.out.drew.set HLAY.out)
        go_wp2
        go_roundw
        case rel => exact ⟨k + 1, by omega, by go_num, by rw [HSN.out]; exact HM3.out⟩
        case measure => simp [intOf]; omega
      · have hkI : ¬ (k : Int) < (m : Int) := by omega
        have HMF : Hid (Mid w1 a1 d1 (Dk.layAll d1.kept d1.st) wr) := Lib.hid (by
          have := HM.out
          rw [List.take_of_length_le (by omega)] at hmid
          exact hmid)
        have HZ := Lib.hid (HFIN.out wr HMF.out)
        have c1 := HMF.out.1.c.2.1
        have f1 := HMF.out.1.fr 1
        dsimp only at c1
        rw [HP.out] at c1 f1
        clear hmid
        go_wp2_with fail
        go_ret
        exact HZ.out
end Go.Proofs.YtkmljbbnpjlehaaDoor
namespace Go.Proofs.YtkmljbbnpjlehaaDoor
set_option maxRecDepth 8000
open Go.RowKit

/-- Nothing is staged, nothing is planned, and it goes off no more. -/
theorem step_crash {w : World} {a : Mm} {d : Dk.D} (h : DAt w a d) (ht : There w a) : Step w a { d with st := [], plan := [], left := -1 } (((w.setCell ⟨a.P, 1, none⟩ (.slice none 0 0)).setCell ⟨a.P, 2, none⟩ (.slice none 0 0)).setCell ⟨a.P, 3, none⟩ (.int .i64 (-1))) := by
  have hs : ∀ x, x < w.heap.size → x ≠ a.P → (((w.setCell ⟨a.P, 1, none⟩ (.slice none 0 0)).setCell ⟨a.P, 2, none⟩ (.slice none 0 0)).setCell ⟨a.P, 3, none⟩ (.int .i64 (-1))).heap[x]? = w.heap[x]? := fun x _ hx => by
    rw [setP_other _ a.P 3 _ x hx, setP_other _ a.P 2 _ x hx, setP_other _ a.P 1 _ x hx]
  have hsub : ∀ x ∈ ({ a with S := none, cS := 0, G := none, cG := 0 } : Mm).F, x ∈ a.F := sub_F rfl rfl (fun _ hx => by cases hx) (fun _ hx => by cases hx)
  have hP : a.P ∈ a.F := (mem_F a _).2 (.inl rfl)
  refine ⟨{ a with S := none, cS := 0, G := none, cG := 0 }, rfl, rfl, h.setP (a' := { a with S := none, cS := 0, G := none, cG := 0 }) ht rfl rfl rfl rfl ⟨h.ok.n, h.ok.kept, fun s hs => by cases hs⟩ (setP_heap (setP_heap (setP_heap h.disk 1 _) 2 _) 3 _) hs (World.ownsRow_nil _ _ _ _) (fun h => absurd h (by simp)) (by simp) (by simp), ⟨fun x hx => ?_⟩, ?_, fun x hx => .inl (hsub x hx)⟩
  · rw [World.size_setCell, World.size_setCell, World.size_setCell]
    exact ht.all x (hsub x hx)
  · exact (((Out.refl _ _).setCell (.inl hP) _).setCell (.inl hP) _).setCell (.inl hP) _

set_option maxHeartbeats 3200000 in
theorem crash_any (w : World) (a : Mm) (d : Dk.D) (A : Option Addr) (cap : Nat) (cuts : List UInt8) (h : DAt w a d) (ht : There w a) (_hst : d.st.length ≤ 1048576) (hcl : cuts.length ≤ 9223372036854775807) (hA : BIn w A cuts) (hF : 0 < cuts.length → ∀ ad, A = some ad → ad.block ∉ a.F) :
    Calls Tryd.prog 35 #[.pointer (some ⟨a.P, 0, none⟩), .slice A cuts.length cap] w (NoPost w a (d.crash cuts)) := by
  have HFIN : Hid (∀ wr, Mid w a d (Dk.layCut cuts 0 d.kept d.st) wr → NoPost w a (d.crash cuts) (.returned (.tuple #[])) (((wr.setCell ⟨a.P, 1, none⟩ (.slice none 0 0)).setCell ⟨a.P, 2, none⟩ (.slice none 0 0)).setCell ⟨a.P, 3, none⟩ (.int .i64 (-1)))) := Lib.hid (fun wr hm => by
    refine ⟨rfl, Step.at ⟨hm.1, hm.2.1, hm.2.2.more (fun x hx => by rw [List.mem_singleton] at hx; rw [hx]; exact (mem_F a _).2 (.inr (.inl rfl)))⟩ (fun at2 t2 => step_crash at2 t2)⟩)
  have HM0 : Mid w a d d.kept w := ⟨h, ht, Out.refl _ _⟩
  have c1 := h.c.2.1
  have HD1 := Lib.hid h
  have HT1 := Lib.hid ht
  obtain ⟨m, hm⟩ : ∃ m, m = d.st.length := ⟨_, rfl⟩
  rw [← hm] at c1 _hst
  have HM := Lib.hid hm
  obtain ⟨n, hn⟩ : ∃ n, n = d.n := ⟨_, rfl⟩
  have hn512 : n ≤ 512 := by rw [hn]; exact HD1.out.ok.n
  have HN := Lib.hid hn
  obtain ⟨c, hc⟩ : ∃ c, c = cuts.length := ⟨_, rfl⟩
  rw [← hc] at hcl ⊢
  have HC := Lib.hid hc
  obtain ⟨S, hS⟩ : ∃ S, S = a.S := ⟨_, rfl⟩
  obtain ⟨cS, hcS⟩ : ∃ x, x = a.cS := ⟨_, rfl⟩
  rw [← hS, ← hcS] at c1
  have hform := own_form h.st
  obtain ⟨A', cap', e1, e2, e3, _, _⟩ := hform
  injection e1 with _ _ e1
  rw [← e1, ← hcS, ← hm] at e2
  rw [← e1, ← hcS] at e3
  unfold maxLen at e3
  have HS := Lib.hid hS
  obtain ⟨r, hr⟩ : ∃ r, r = min m c := ⟨_, rfl⟩
  have hrm : r ≤ m := by omega
  have hrc : r ≤ c := by omega
  have hrI : (0 : Int) ≤ (r : Int) := by omega
  have hrS : (r : Int) ≤ (cS : Int) := by omega
  have hmI : (m : Int) ≤ (cS : Int) := by omega
  have HR := Lib.hid hr
  have HAI := Lib.hid hA
  have HFF := Lib.hid hF
  clear hr hS hcS e1 hc hn hm h ht hA hF
  go_enter Tryd.func35, Tryd.ntmps35
  go_wp2_with fail
  refine wp_region_held_drew (S := fun wx => wx.cell? ⟨a.P, 1, none⟩ = some (.slice S m cS)) (by kernel_rfl) c1 (fun hHeld => ?_)
  refine wpAnyH_take (i := 0) (oi := ⟨_, _, _, _, _, _⟩) (v := .pointer (some ⟨a.P, 0, none⟩)) rfl (by kernel_rfl) (by kernel_rfl) (by kernel_rfl) (fun _ _ _ h => h) (Or.inl ⟨by rfl, by intro wx hSw; (try dsimp only at hSw); go_simp⟩) (by assumption) ?_
  simp only [Act.put, List.setIfInBounds_toArray, List.set_cons_zero, List.set_cons_succ]
  refine wpAnyH_take (i := 1) (oi := ⟨_, _, _, _, _, _⟩) (v := .pointer (some ⟨a.P, 0, none⟩)) rfl (by kernel_rfl) (by kernel_rfl) (by kernel_rfl) (fun _ _ _ h => h) (Or.inl ⟨by rfl, by intro wx hSw; (try dsimp only at hSw); go_simp⟩) (by assumption) ?_
  simp only [Act.put, List.setIfInBounds_toArray, List.set_cons_zero, List.set_cons_succ]
  refine wpAnyH_take (i := 2) (oi := ⟨_, _, _, _, _, _⟩) (v := .pointer (some ⟨a.P, 1, none⟩)) rfl (by kernel_rfl) (by kernel_rfl) (by kernel_rfl) (fun _ _ _ h => h) (Or.inl ⟨by rfl, by intro wx hSw; (try dsimp only at hSw); go_simp⟩) (by assumption) ?_
  simp only [Act.put, List.setIfInBounds_toArray, List.set_cons_zero, List.set_cons_succ]
  refine wpAnyH_take (i := 3) (oi := ⟨_, _, _, _, _, _⟩) (v := .slice S m cS) rfl (by kernel_rfl) (by kernel_rfl) (by kernel_rfl) (fun _ _ _ h => h) (Or.inl ⟨by rfl, by intro wx hSw; (try dsimp only at hSw); go_simp⟩) (by assumption) ?_
  simp only [Act.put, List.setIfInBounds_toArray, List.set_cons_zero, List.set_cons_succ]
  refine wpAnyH_take (i := 4) (oi := ⟨_, _, _, _, _, _⟩) (v := .pointer (some ⟨a.P, 0, none⟩)) rfl (by kernel_rfl) (by kernel_rfl) (by kernel_rfl) (fun _ _ _ h => h) (Or.inl ⟨by rfl, by intro wx hSw; (try dsimp only at hSw); go_simp⟩) (by assumption) ?_
  simp only [Act.put, List.setIfInBounds_toArray, List.set_cons_zero, List.set_cons_succ]
  refine wpAnyH_take (i := 5) (oi := ⟨_, _, _, _, _, _⟩) (v := .pointer (some ⟨a.P, 0, none⟩)) rfl (by kernel_rfl) (by kernel_rfl) (by kernel_rfl) (fun _ _ _ h => h) (Or.inl ⟨by rfl, by intro wx hSw; (try dsimp only at hSw); go_simp⟩) (by assumption) ?_
  simp only [Act.put, List.setIfInBounds_toArray, List.set_cons_zero, List.set_cons_succ]
  refine wpAnyH_take (i := 6) (oi := ⟨_, _, _, _, _, _⟩) (v := .pointer (some ⟨a.P, 1, none⟩)) rfl (by kernel_rfl) (by kernel_rfl) (by kernel_rfl) (fun _ _ _ h => h) (Or.inl ⟨by rfl, by intro wx hSw; (try dsimp only at hSw); go_simp⟩) (by assumption) ?_
  simp only [Act.put, List.setIfInBounds_toArray, List.set_cons_zero, List.set_cons_succ]
  refine wpAnyH_take (i := 7) (oi := ⟨_, _, _, _, _, _⟩) (v := .slice S m cS) rfl (by kernel_rfl) (by kernel_rfl) (by kernel_rfl) (fun _ _ _ h => h) (Or.inl ⟨by rfl, by intro wx hSw; (try dsimp only at hSw); go_simp⟩) (by assumption) ?_
  simp only [Act.put, List.setIfInBounds_toArray, List.set_cons_zero, List.set_cons_succ]
  refine wpAnyH_take (i := 8) (oi := ⟨_, _, _, _, _, _⟩) (v := .int .i64 (m : Int)) rfl (by kernel_rfl) (by kernel_rfl) (by kernel_rfl) (fun _ _ _ h => h) (Or.inl ⟨by rfl, by intro wx hSw; (try dsimp only at hSw); go_simp⟩) (by assumption) ?_
  simp only [Act.put, List.setIfInBounds_toArray, List.set_cons_zero, List.set_cons_succ]
  refine wpAnyH_take (i := 9) (oi := ⟨_, _, _, _, _, _⟩) (v := .slice A c cap) rfl (by kernel_rfl) (by kernel_rfl) (by kernel_rfl) (fun _ _ _ h => h) (Or.inl ⟨by rfl, by intro wx hSw; (try dsimp only at hSw); go_simp⟩) (by assumption) ?_
  simp only [Act.put, List.setIfInBounds_toArray, List.set_cons_zero, List.set_cons_succ]
  refine wpAnyH_take (i := 10) (oi := ⟨_, _, _, _, _, _⟩) (v := .int .i64 (c : Int)) rfl (by kernel_rfl) (by kernel_rfl) (by kernel_rfl) (fun _ _ _ h => h) (Or.inl ⟨by rfl, by intro wx hSw; (try dsimp only at hSw); go_simp⟩) (by assumption) ?_
  simp only [Act.put, List.setIfInBounds_toArray, List.set_cons_zero, List.set_cons_succ]
  refine wpAnyH_take (i := 11) (oi := ⟨_, _, _, _, _, _⟩) (v := .int .i64 (r : Int)) rfl (by kernel_rfl) (by kernel_rfl) (by kernel_rfl) (fun _ _ _ h => h) (Or.inl ⟨by rfl, by intro wx hSw; clear hrm hrc hrI hrS; go_simp; have := HR.out; omega⟩) (by assumption) ?_
  simp only [Act.put, List.setIfInBounds_toArray, List.set_cons_zero, List.set_cons_succ]
  refine wpAnyH_take (i := 12) (oi := ⟨_, _, _, _, _, _⟩) (v := .slice S r cS) rfl (by kernel_rfl) (by kernel_rfl) (by kernel_rfl) (fun _ _ _ h => h) (Or.inl ⟨by rfl, by intro wx hSw; (try dsimp only at hSw); go_simp⟩) (by assumption) ?_
  simp only [Act.put, List.setIfInBounds_toArray, List.set_cons_zero, List.set_cons_succ]
  refine wpAnyH_take (i := 13) (oi := ⟨_, _, _, _, _, _⟩) (v := .int .i64 (r : Int)) rfl (by kernel_rfl) (by kernel_rfl) (by kernel_rfl) (fun _ _ _ h => h) (Or.inl ⟨by rfl, by intro wx hSw; (try dsimp only at hSw); go_simp⟩) (by assumption) ?_
  simp only [Act.put, List.setIfInBounds_toArray, List.set_cons_zero, List.set_cons_succ]
  refine wpAnyH_take (i := 14) (oi := ⟨_, _, _, _, _, _⟩) (v := .int .i64 0) rfl (by kernel_rfl) (by kernel_rfl) (by kernel_rfl) (fun _ _ _ h => h) (Or.inl ⟨by rfl, by intro wx hSw; (try dsimp only at hSw); go_simp⟩) (by assumption) ?_
  simp only [Act.put, List.setIfInBounds_toArray, List.set_cons_zero, List.set_cons_succ]
  refine wpAnyH_done (by kernel_rfl) ?_ _
  clear hHeld
  go_wp2_with fail
  clear c1
  have hrC : Hid (∀ kp, Dk.layCut cuts 0 kp (d.st.take r) = Dk.layCut cuts 0 kp d.st) := Lib.hid (fun kp => by
    have h1 := HR.out
    have h2 := HC.out
    have h3 := HM.out
    have e := Dk.layCut_take cuts d.st 0 kp
    rw [Nat.sub_zero] at e
    rcases Nat.le_total m c with hmc | hmc
    · rw [show r = m by omega, h3, List.take_of_length_le (Nat.le_refl _)]
    · rw [show r = cuts.length by omega]
      exact e)
  go_loopw [21] (fun iv wr => ∃ k : Nat, k ≤ r ∧ iv = .int .i64 k ∧ Mid w a d (Dk.layCut cuts 0 d.kept (d.st.take k)) wr) (fun iv _ => r - (intOf iv).toNat)
  case atStart => exact ⟨0, Nat.zero_le _, rfl, HM0.drew⟩
  case round =>
    obtain ⟨k, hk, rfl, hmid⟩ := hrel
    by_cases hlt : k < r
    · have hkl : k < d.st.length := by have := HM.out; omega
      have hkc : k < cuts.length := by have := HC.out; omega
      obtain ⟨b, hb, hbl, hrange⟩ := range_st hmid.1 hkl
      have hok := HD1.out.ok.st _ (List.getElem_mem hkl)
      have HSN : Hid (Dk.layCut cuts 0 d.kept (d.st.take (k + 1)) = Dk.lay (Dk.layCut cuts 0 d.kept (d.st.take k)) d.st[k] (Dk.cutAt cuts k)) := Lib.hid (by rw [List.take_succ_eq_append_getElem hkl, Dk.layCut_snoc, List.length_take, Nat.zero_add, Nat.min_eq_left (by omega)])
      have hKL := Dk.layCut_ok cuts (d.st.take k) 0 d.kept HD1.out.ok.kept (fun s hs => HD1.out.ok.st s (List.mem_of_mem_take hs))
      obtain ⟨bA, oA, rfl, hbA, hcA⟩ := HAI.out (show 0 < cuts.length by omega)
      have hcell : wr.cell? ⟨bA, oA + k, none⟩ = some (.int .u8 (cuts[k].toNat : Int)) := by
        have hne : bA ≠ a.k := fun e => HFF.out (show 0 < cuts.length by omega) _ rfl (by rw [e]; exact (mem_F a _).2 (.inr (.inl rfl)))
        rw [World.cell?_of_block (w := w) (w' := wr) (a := ⟨bA, oA + k, none⟩) (hmid.2.2.block bA hbA (by simpa using hne))]
        exact hcA k hkc
      have hq : Dk.cutAt cuts k = cuts[k].toNat % 33 := by unfold Dk.cutAt; rw [dif_pos hkc]
      have hbA2 : bA < wr.heap.size := Nat.lt_of_lt_of_le hbA hmid.2.2.size
      rw [hq] at HSN
      obtain ⟨x, hx⟩ : ∃ x, x = cuts[k].toNat := ⟨_, rfl⟩
      have hx256 : x < 256 := by rw [hx]; exact cuts[k].toNat_lt
      rw [← hx] at hcell HSN
      obtain ⟨q, hq2⟩ : ∃ q, q = x % 33 := ⟨_, rfl⟩
      rw [← hq2] at HSN
      have hq33 : q ≤ 32 := by omega
      have hx0 : (0 : Int) ≤ (x : Int) := by omega
      have hxI : (x : Int) < 256 := by omega
      have hm1 : (x : Int) % 33 = (q : Int) := by omega
      have hm2 : (x : Int).tmod 33 = (q : Int) := by rw [Int.tmod_eq_emod_of_nonneg hx0]; exact hm1
      have hm3 : x % 33 = q := hq2.symm
      have hq0 : (0 : Int) ≤ (q : Int) := by omega
      have hqI : (q : Int) ≤ 32 := by omega
      clear hq hcA hbA hx hq2
      dsimp only at hrange
      obtain ⟨⟨at0, y⟩, hs⟩ : ∃ s, s = d.st[k] := ⟨_, rfl⟩
      rw [← hs] at hrange hok HSN
      dsimp only at hrange hok HSN
      obtain ⟨hok1, hok2⟩ := hok
      have hatn : at0 < n := by have := HN.out; omega
      have HY := Lib.hid hok2
      obtain ⟨kp, hkp⟩ : ∃ kp, kp = Dk.layCut cuts 0 d.kept (d.st.take k) := ⟨_, rfl⟩
      rw [← hkp] at hmid HSN hKL
      have HKL := Lib.hid hKL
      have hK2 : 32 * d.n = 32 * n := by have := HN.out; omega
      have HKN := Lib.hid hK2
      have HLAY : Hid ((Dk.lay kp (at0, y) q).length = 32 * d.n) := Lib.hid (Dk.lay_ok q hKL hok1 hok2)
      have HTQ : Hid (∀ (j : Nat) (v : Value), (bcs (y.take q))[j]? = some v → (bcs y)[j]? = some v) := Lib.hid (fun j v hv => by
        have hj : j < q := by have := (List.getElem?_eq_some_iff.1 hv).1; rw [bcs_len, List.length_take] at this; omega
        rw [← hv]
        simp [bcs, hj])
      clear hs hok1 hok2 hkp hkl hKL hK2 hkc
      have hbS : S = some ⟨b, 0, none⟩ := by rw [HS.out]; exact hb
      rw [hbS]
      have hk0 : (0 : Int) ≤ (k : Int) := by omega
      have hkI : (k : Int) < (r : Int) := by omega
      have hkcI : (k : Int) < (c : Int) := by omega
      have hat0 : (0 : Int) ≤ (at0 : Int) := by omega
      have hatI : (at0 : Int) < (n : Int) := by omega
      have hcs : (Go.Proofs.YtkmljbbnpjlehaaDoor.cS (at0 : Int) y).size = 33 := by rw [cS_size, HY.out]
      have HCS := Lib.hid hcs
      have HMID := Lib.hid hmid
      clear hcs hb hbS hmid
      go_wp2_with (first
        | ((with_reducible refine wpList_load_mid (op := ⟨some 25, _, _, _, _, _⟩) rfl 124 _ rfl b (k * 33) ?_ (.int .i64 (at0 : Int) :: bcs y) _ hrange Tryd.underlying124 rfl ?_ ?_); exact rfl; exact (by rw [List.length_cons, bcs_len, HY.out]; exact sizeStaged))
        | (with_reducible refine wpList_alloc_z (s := 5) 124 zS zS_run ?_)
        | ((with_reducible refine wpList_store_new 124 (.tmp 5) (.tmp 25) zS (Go.Proofs.YtkmljbbnpjlehaaDoor.cS at0 y) ?_ ?_ ?_ ?_ ?_ ?_); exact rfl; exact rfl; exact (by rw [HCS.out]; exact sizeStaged); exact (by rw [HCS.out]; rfl); exact (cS_one _ _)))
      clear hrange hcell
      obtain ⟨g, hg⟩ : ∃ g, g = wr.heap.size := ⟨_, rfl⟩
      have g0 : (wr.alloc (.cells (Go.Proofs.YtkmljbbnpjlehaaDoor.cS at0 y) 124)).cell? ⟨g, 0, none⟩ = some (.int .i64 (at0 : Int)) := by rw [hg, cell_of_row _ wr.heap.size 0 _ _ _ (heap_alloc_new wr _)]; rfl
      have g1 : (wr.alloc (.cells (Go.Proofs.YtkmljbbnpjlehaaDoor.cS at0 y) 124)).rangeAt g 1 (bcs y) := by rw [hg]; exact range_new wr at0 y
      have hm9 := HMID.out.alloc (.cells (Go.Proofs.YtkmljbbnpjlehaaDoor.cS at0 y) 124)
      have hgk : g ≠ a.k := by have := HMID.out.2.1.all _ ((mem_F a _).2 (.inr (.inl rfl))); omega
      rw [← hg]
      obtain ⟨wa, hwa⟩ : ∃ wa, wa = wr.alloc (.cells (Go.Proofs.YtkmljbbnpjlehaaDoor.cS at0 y) 124) := ⟨_, rfl⟩
      rw [← hwa] at g0 g1 hm9 ⊢
      have p0 := hm9.1.c.1
      have HKP := Lib.hid hm9.1.kept
      have hPk := hm9.1.Pk
      dsimp only at p0 HKP
      rw [← HN.out] at p0
      have HM2 := Lib.hid hm9
      clear hwa hg hm9 hbA2
      have hset : ∀ (u : Array Value) (p : Addr), p.block ≠ a.k → (wa.drew.setRow a.k u).cell? p = wa.drew.cell? p := fun u p hp => World.cell?_of_block (setRow_other wa.drew a.k p.block u hp)
      have kp0 := fun u => hset u ⟨a.P, 0, none⟩ hPk
      have kg0 := fun u => hset u ⟨g, 0, none⟩ hgk
      have kg1 := fun u q => hset u ⟨g, 1 + q, none⟩ hgk
      clear hset
      refine wp_region_held_drew (S := fun wx => wx.cell? ⟨a.P, 0, none⟩ = some (.slice (some ⟨a.k, 0, none⟩) n n) ∧ wx.cell? ⟨g, 0, none⟩ = some (.int .i64 (at0 : Int)) ∧ wx.rangeAt g 1 (bcs y)) (by kernel_rfl) ⟨p0, g0, g1⟩ (fun hHeld => ?_)
      refine wpAnyH_take (i := 0) (oi := ⟨_, _, _, _, _, _⟩) (v := .pointer (some ⟨a.P, 0, none⟩)) rfl (by kernel_rfl) (by kernel_rfl) (by kernel_rfl) (fun _ _ _ h => h) (Or.inl ⟨by rfl, by intro wx hSw; (try dsimp only at hSw); go_simp⟩) (by assumption) ?_
      simp only [Act.put, List.setIfInBounds_toArray, List.set_cons_zero, List.set_cons_succ]
      refine wpAnyH_take (i := 1) (oi := ⟨_, _, _, _, _, _⟩) (v := .pointer (some ⟨a.P, 0, none⟩)) rfl (by kernel_rfl) (by kernel_rfl) (by kernel_rfl) (fun _ _ _ h => h) (Or.inl ⟨by rfl, by intro wx hSw; (try dsimp only at hSw); go_simp⟩) (by assumption) ?_
      simp only [Act.put, List.setIfInBounds_toArray, List.set_cons_zero, List.set_cons_succ]
      refine wpAnyH_take (i := 2) (oi := ⟨_, _, _, _, _, _⟩) (v := .pointer (some ⟨a.P, 0, none⟩)) rfl (by kernel_rfl) (by kernel_rfl) (by kernel_rfl) (fun _ _ _ h => h) (Or.inl ⟨by rfl, by intro wx hSw; (try dsimp only at hSw); go_simp⟩) (by assumption) ?_
      simp only [Act.put, List.setIfInBounds_toArray, List.set_cons_zero, List.set_cons_succ]
      refine wpAnyH_take (i := 3) (oi := ⟨_, _, _, _, _, _⟩) (v := .slice (some ⟨a.k, 0, none⟩) n n) rfl (by kernel_rfl) (by kernel_rfl) (by kernel_rfl) (fun _ _ _ h => h) (Or.inl ⟨by rfl, by intro wx hSw; (try dsimp only at hSw); go_simp⟩) (by assumption) ?_
      simp only [Act.put, List.setIfInBounds_toArray, List.set_cons_zero, List.set_cons_succ]
      refine wpAnyH_take (i := 4) (oi := ⟨_, _, _, _, _, _⟩) (v := .pointer (some ⟨g, 0, none⟩)) rfl (by kernel_rfl) (by kernel_rfl) (by kernel_rfl) (fun _ _ _ h => h) (Or.inl ⟨by rfl, by intro wx hSw; (try dsimp only at hSw); go_simp⟩) (by assumption) ?_
      simp only [Act.put, List.setIfInBounds_toArray, List.set_cons_zero, List.set_cons_succ]
      refine wpAnyH_take (i := 5) (oi := ⟨_, _, _, _, _, _⟩) (v := .int .i64 (at0 : Int)) rfl (by kernel_rfl) (by kernel_rfl) (by kernel_rfl) (fun _ _ _ h => h) (Or.inl ⟨by rfl, by intro wx hSw; (try dsimp only at hSw); go_simp⟩) (by assumption) ?_
      simp only [Act.put, List.setIfInBounds_toArray, List.set_cons_zero, List.set_cons_succ]
      refine wpAnyH_take (i := 6) (oi := ⟨_, _, _, _, _, _⟩) (v := .pointer (some ⟨a.k, at0 * 32, none⟩)) rfl (by kernel_rfl) (by kernel_rfl) (by kernel_rfl) (fun _ _ _ h => h) (Or.inl ⟨by rfl, by intro wx hSw; (try dsimp only at hSw); go_simp⟩) (by assumption) ?_
      simp only [Act.put, List.setIfInBounds_toArray, List.set_cons_zero, List.set_cons_succ]
      refine wpAnyH_take (i := 7) (oi := ⟨_, _, _, _, _, _⟩) (v := .slice (some ⟨a.k, at0 * 32, none⟩) 32 32) rfl (by kernel_rfl) (by kernel_rfl) (by kernel_rfl) (fun _ _ _ h => h) (Or.inl ⟨by rfl, by intro wx hSw; (try dsimp only at hSw); go_simp⟩) (by assumption) ?_
      simp only [Act.put, List.setIfInBounds_toArray, List.set_cons_zero, List.set_cons_succ]
      refine wpAnyH_take (i := 8) (oi := ⟨_, _, _, _, _, _⟩) (v := .pointer (some ⟨g, 1, none⟩)) rfl (by kernel_rfl) (by kernel_rfl) (by kernel_rfl) (fun _ _ _ h => h) (Or.inl ⟨by rfl, by intro wx hSw; (try dsimp only at hSw); go_simp⟩) (by assumption) ?_
      simp only [Act.put, List.setIfInBounds_toArray, List.set_cons_zero, List.set_cons_succ]
      refine wpAnyH_take (i := 9) (oi := ⟨_, _, _, _, _, _⟩) (v := .int .i64 (q : Int)) rfl (by kernel_rfl) (by kernel_rfl) (by kernel_rfl) (fun _ _ _ h => h) (Or.inl ⟨by rfl, by intro wx hSw; (try dsimp only at hSw); go_simp⟩) (by assumption) ?_
      simp only [Act.put, List.setIfInBounds_toArray, List.set_cons_zero, List.set_cons_succ]
      refine wpAnyH_take (i := 10) (oi := ⟨_, _, _, _, _, _⟩) (v := .slice (some ⟨g, 1, none⟩) q 32) rfl (by kernel_rfl) (by kernel_rfl) (by kernel_rfl) (fun _ _ _ h => h) (Or.inl ⟨by rfl, by intro wx hSw; (try dsimp only at hSw); go_simp⟩) (by assumption) ?_
      simp only [Act.put, List.setIfInBounds_toArray, List.set_cons_zero, List.set_cons_succ]
      refine wpAnyH_ready (rs := [11]) (by kernel_rfl) (by simp) ?_
      refine AllReadyH.cons (o := ⟨_, _, _, _, _, _⟩) rfl (fun K hK => ?_) AllReadyH.nil
      rw [if_pos (by rfl)]
      refine wp_copy_splice1 (.tmp 39) (.tmp 42) 36 36 rfl 5 Tryd.underlying36 (by kernel_rfl) a.k (at0 * 32) 32 32 ⟨g, 1, none⟩ q 32 rfl rfl (bcs kp) 121 HKP.out (bcs (y.take q)) (by rw [bcs_len, List.length_take, HY.out]) (fun j v hv => by rw [Addr.add_mid]; exact g1 j v (HTQ.out j v hv)) (by rw [bcs_len, bcs_len, List.length_take, HY.out, HKL.out]; have := HKN.out; omega) (bcs_one _) ?_
      refine hK.out _ _ ⟨(kp0 _).trans p0, (kg0 _).trans g0, fun q' v hv => (kg1 _ _).trans (g1 q' v hv)⟩ (fun hHeld => ?_)
      clear hK K
      simp only [Act.put, List.setIfInBounds_toArray, List.set_cons_zero, List.set_cons_succ]
      refine wpAnyH_done (by kernel_rfl) ?_ _
      clear hHeld p0 g0 g1 kp0 kg0 kg1
      have HM3 : Hid (Mid w a d (Dk.lay kp (at0, y) q) (wa.drew.setRow a.k (splice (bcs kp) (at0 * 32) (bcs (y.take q))).toArray)) := Lib.hid (by
        rw [lay_cells]
        exact HM2.out.drew.set HLAY.out)
      go_wp2
      go_roundw
      case rel => exact ⟨k + 1, by omega, by go_num, by rw [HSN.out]; exact HM3.out⟩
      case measure => simp [intOf]; omega
    · have hkI : ¬ (k : Int) < (r : Int) := by omega
      have HMF : Hid (Mid w a d (Dk.layCut cuts 0 d.kept d.st) wr) := Lib.hid (by
        rw [← hrC.out, show r = k by omega]
        exact hmid)
      have HZ := Lib.hid (HFIN.out wr HMF.out)
      have cc := HMF.out.1.c
      have f1 := HMF.out.1.fr 1
      have f2 := HMF.out.1.fr 2
      have f3 := HMF.out.1.fr 3
      dsimp only at cc
      obtain ⟨_, c1, c2, c3⟩ := cc
      clear hmid
      go_wp2_with fail
      go_end0
      exact HZ.out
end Go.Proofs.YtkmljbbnpjlehaaDoor
