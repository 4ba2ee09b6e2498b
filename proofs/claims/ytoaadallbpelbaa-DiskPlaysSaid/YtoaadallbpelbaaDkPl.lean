/- What the statement on whatever is done to a disk answers: true. No condition. -/
import Derived.Test.YtoaadallbpelbaaDkTw
import Derived.Deep.DeepCutAuto
namespace Go.Proofs.Ytoaadallbpelbaa
set_option maxRecDepth 8000
open Go.RowKit

set_option maxHeartbeats 1600000 in
theorem plays_out (w : World) (bl at0 : Int) (Al : Option Addr) (cl : Nat) (l : List Dk.O) (hO : OpsIn w w.heap.size Al l) (hll : l.length ≤ 9223372036854775807) (h : Dk.fewB l = false ∨ 40 < bl) :
    Calls Try.prog 3 #[.int .i64 bl, .slice Al l.length cl, .int .i64 at0] w (AwakePost w) := by
  cases hf : Dk.fewB l with
  | false =>
    clear h
    go_enter Try.func3, Try.ntmps3
    go_wp2_with fail
    refine (awake_any w).mono ?_
    rintro e w1 ⟨rfl, hb1⟩
    have hFew := few_any w1 w.heap.size Al cl l (hO.keep hb1) hll
    rw [hf] at hFew
    go_wp2_with fail
    refine hFew.mono ?_
    rintro e w' ⟨rfl, rfl⟩
    clear hFew
    go_wp2_with fail
    go_ret
    exact ⟨rfl, hb1⟩
  | true =>
    have hb : 40 < bl := by
      rcases h with h | h
      · rw [hf] at h; cases h
      · exact h
    clear h
    go_enter Try.func3, Try.ntmps3
    go_wp2_with fail
    refine (awake_any w).mono ?_
    rintro e w1 ⟨rfl, hb1⟩
    have hFew := few_any w1 w.heap.size Al cl l (hO.keep hb1) hll
    rw [hf] at hFew
    go_wp2_with fail
    refine hFew.mono ?_
    rintro e w' ⟨rfl, rfl⟩
    clear hFew
    go_wp2_with fail
    go_ret
    exact ⟨rfl, hb1⟩

set_option maxHeartbeats 6400000 in
theorem plays_in (w : World) (bl at0 : Int) (Al : Option Addr) (cl : Nat) (l : List Dk.O) (hO : OpsIn w w.heap.size Al l) (hll : l.length ≤ 9223372036854775807) (hf : Dk.fewB l = true) (h40 : ¬ 40 < bl) :
    Calls Try.prog 3 #[.int .i64 bl, .slice Al l.length cl, .int .i64 at0] w (AwakePost w) := by
  have hfew : (∀ o ∈ l, o.b.length ≤ 100 ∧ o.p.length ≤ 100) ∧ l.length ≤ 40 := by
    have hf' := hf
    unfold Dk.fewB Dk.okO at hf'
    simp at hf'
    exact ⟨fun o ho => hf'.1 o ho, hf'.2⟩
  obtain ⟨hf1, hf2⟩ := hfew
  have HF1 := Lib.hid hf1
  obtain ⟨n, hn⟩ : ∃ n, n = l.length := ⟨_, rfl⟩
  have HN := Lib.hid hn
  have hFew0 : ∀ w1, Below w.heap.size w w1 → Calls Try.prog 10 #[.slice Al n cl] w1 fun e w' => e = .returned (.bool true) ∧ w1 = w' := fun w1 hb1 => by
    have := few_any w1 w.heap.size Al cl l (hO.keep hb1) hll
    rw [hf] at this
    rw [hn]
    exact this
  rw [← hn] at hf2 ⊢
  have HO := Lib.hid hO
  obtain ⟨d0, hd0⟩ : ∃ d0, d0 = Dk.new bl := ⟨_, rfl⟩
  have HNEW : Hid (∀ w1 : World, Calls Try.prog 11 #[.int .i64 bl] w1 (MadePost w1 d0) ∧ Calls Try.prog 12 #[.int .i64 bl] w1 (MadeR w1 d0)) := Lib.hid (fun w1 => by rw [hd0]; exact ⟨new_any w1 bl, ref_new_any w1 bl⟩)
  have HD0S : Hid (d0.st = []) := Lib.hid (by rw [hd0]; rfl)
  clear hf1 hn hO hf hd0 hll
  go_enter Try.func3, Try.ntmps3
  go_wp2_with fail
  refine (awake_any w).mono ?_
  rintro e w1 ⟨rfl, hb1⟩
  go_wp2_with fail
  refine (hFew0 w1 hb1).mono ?_
  rintro e w' ⟨rfl, rfl⟩
  clear hFew0
  have hN1 := (HNEW.out w1).1
  go_wp2_with fail
  refine hN1.mono ?_
  intro e1 w2 hm1
  have hN2 := (HNEW.out w2).2
  have HM1 := Lib.hid hm1
  obtain ⟨a1, he1, _⟩ := hm1
  subst he1
  clear hN1
  go_wp2_with fail
  refine hN2.mono ?_
  intro e2 w3 hm2
  obtain ⟨P, Q, hE1, hE2, htw, hb3⟩ := two_made (base := w.heap.size) HD0S.out hb1.size HM1.out hm2
  subst hE2
  injection hE1 with hE1
  injection hE1 with hE1
  injection hE1 with hE1
  injection hE1 with hE1 _ _
  rw [hE1]
  have HB3 := Lib.hid (hb1.trans (hb3.mono hb1.size))
  obtain ⟨base, hbase⟩ : ∃ base, base = w.heap.size := ⟨_, rfl⟩
  rw [← hbase] at htw HB3
  have HBS := Lib.hid hbase
  have HTW := Lib.hid htw
  clear hbase htw hb1 hb3 hm2 HM1 hN2 HNEW hE1
  go_wp2_with fail
  go_loopw [11] (fun iv wr => ∃ k : Nat, k ≤ n ∧ iv = .int .i64 k ∧ Two [] base wr P Q (Dk.run d0 (l.take k)) (Dk.run d0 (l.take k)) ∧ Below base w wr) (fun iv _ => n - (intOf iv).toNat)
  case atStart => exact ⟨0, Nat.zero_le _, rfl, HTW.out, HB3.out⟩
  case round =>
    obtain ⟨k, hk, rfl, htw, hbr⟩ := hrel
    by_cases hlt : k < n
    · have hkl : k < l.length := by have := HN.out; omega
      have hO := HO.out.keep (by rw [← HBS.out]; exact hbr)
      obtain ⟨bb, off, rfl, hbl, hc⟩ := hO (by omega)
      obtain ⟨m, hm, hin⟩ := hc k hkl
      have HSN : Hid (Dk.run d0 (l.take (k + 1)) = (Dk.run d0 (l.take k)).ex l[k]) := Lib.hid (by rw [List.take_succ_eq_append_getElem hkl, Dk.run_snoc])
      have hst : (Dk.run d0 (l.take k)).st.length ≤ 1048575 := by
        have h1 := Dk.run_st d0 (l.take k)
        rw [HD0S.out, List.length_take] at h1
        simp at h1
        omega
      have hok := HF1.out l[k] (List.getElem_mem hkl)
      obtain ⟨o, ho⟩ : ∃ o, o = l[k] := ⟨_, rfl⟩
      rw [← ho] at hm hin HSN hok
      obtain ⟨d, hdk⟩ : ∃ dk, dk = Dk.run d0 (l.take k) := ⟨_, rfl⟩
      rw [← hdk] at htw HSN hst
      have hpl : o.p.length ≤ 1048576 := by omega
      have hbsz : base ≤ wr.heap.size := by have := hbr.size; have := HBS.out; omega
      obtain ⟨ox, oi, ob, op⟩ := o
      obtain ⟨mA, mcA, mG, mcG⟩ := m
      unfold opCells at hm
      dsimp only at hm hpl
      have hrg : wr.rangeAt bb (off + k * 4) [.int .i64 ox, .int .i64 oi, .slice mA ob.length mcA, .slice mG op.length mcG] := fun j v hv => by rw [Nat.add_assoc]; exact hm j v hv
      obtain ⟨w5, hw5⟩ : ∃ w5, w5 = wr.alloc (.cells #[.int .i64 ox, .int .i64 oi, .slice mA ob.length mcA, .slice mG op.length mcG] 32) := ⟨_, rfl⟩
      obtain ⟨gO, hgO⟩ : ∃ g, g = wr.heap.size := ⟨_, rfl⟩
      have hb5 : Below wr.heap.size wr w5 := by rw [hw5]; exact (Below.refl _ _).alloc (Nat.le_refl _) _
      have hO5 : w5.heap[gO]? = some (.cells #[.int .i64 ox, .int .i64 oi, .slice mA ob.length mcA, .slice mG op.length mcG] 32 (0, 0)) := by rw [hw5, hgO]; exact heap_alloc_new wr _
      have htw5 : Two [gO] base w5 P Q d d := htw.add hb5 [gO] (fun y hy => by rw [List.mem_singleton] at hy; subst hy; exact ⟨by rw [hgO]; exact Nat.le_refl _, lt_of_blk' hO5⟩)
      have hin5 : OpIn w5 base ⟨ox, oi, ob, op⟩ ⟨mA, mcA, mG, mcG⟩ := by rw [← HBS.out] at hin; exact hin.keep (hb5.mono hbsz)
      have hdo := do_tw htw5 (Nat.le_trans hbsz hb5.size) ⟨ox, oi, ob, op⟩ ⟨mA, mcA, mG, mcG⟩ hst hin5 hpl
      unfold opCells at hdo
      have HO5 := Lib.hid hO5
      have HIN5 := Lib.hid hin5
      have HB5 := Lib.hid (hbr.trans (hb5.mono hbsz))
      have HBZ5 : Hid (base ≤ w5.heap.size) := Lib.hid (Nat.le_trans hbsz hb5.size)
      have HW5 := Lib.hid hw5
      have HGO := Lib.hid hgO
      have HST := Lib.hid hst
      have hk0 : (0 : Int) ≤ (k : Int) := by omega
      have hkI : (k : Int) < (n : Int) := by omega
      clear ho hdk hkl hO hc hm hin hok hst htw htw5 hin5 hb5 hO5 hw5 hgO hbr hbl hbsz
      go_wp2_with ((with_reducible refine wpList_load_mid (op := ⟨some 40, _, _, _, _, _⟩) rfl 32 _ rfl bb (off + k * 4) ?_ [.int .i64 ox, .int .i64 oi, .slice mA ob.length mcA, .slice mG op.length mcG] _ hrg Try.underlying32 rfl (by kernel_rfl) ?_); exact rfl)
      rw [← HW5.out, ← HGO.out]
      refine hdo.mono ?_
      rintro e w6 ⟨rfl, htw6, hb6, hx6⟩
      have HO6 : Hid (w6.heap[gO]? = some (.cells #[.int .i64 ox, .int .i64 oi, .slice mA ob.length mcA, .slice mG op.length mcG] 32 (0, 0))) := Lib.hid ((hx6 gO (by simp)).trans HO5.out)
      have HB6 := Lib.hid (HB5.out.trans hb6)
      have HIN6 := Lib.hid (HIN5.out.keep hb6)
      have HBZ6 : Hid (base ≤ w6.heap.size) := Lib.hid (Nat.le_trans HBZ5.out hb6.size)
      have HTW6 := Lib.hid htw6
      clear hdo hrg htw6 hb6 hx6 HO5 HB5 HIN5 HBZ5
      have q0 := cell_of_row w6 gO 0 _ _ _ HO6.out
      have q1 := cell_of_row w6 gO 1 _ _ _ HO6.out
      have q2 := cell_of_row w6 gO 2 _ _ _ HO6.out
      have q3 := cell_of_row w6 gO 3 _ _ _ HO6.out
      dsimp only
      go_upto_region 14 with fail
      (first | go_values | go_skip | go_guarded | go_step | go_upon | go_back | go_simp)
      (first | go_values | go_skip | go_guarded | go_step | go_upon | go_back | go_simp)
      (first | go_values | go_skip | go_guarded | go_step | go_upon | go_back | go_simp)
      (first | go_values | go_skip | go_guarded | go_step | go_upon | go_back | go_simp)
      (first | go_values | go_skip | go_guarded | go_step | go_upon | go_back | go_simp)
      (first | go_values | go_skip | go_guarded | go_step | go_upon | go_back | go_simp)
      go_step
      go_step
      have HTW6' : Hid (Two [gO] base w6 P Q (d.ex ⟨ox, oi, ob, op⟩) d) := Lib.hid HTW6.out
      obtain ⟨de, hde⟩ : ∃ de, de = d.ex ⟨ox, oi, ob, op⟩ := ⟨_, rfl⟩
      obtain ⟨xe, hxe⟩ : ∃ xe, xe = d.exE ⟨ox, oi, ob, op⟩ := ⟨_, rfl⟩
      rw [← hde] at HTW6 HTW6' HSN
      rw [← hxe]
      have HDE := Lib.hid hde
      have HXE := Lib.hid hxe
      clear hde hxe
      go_cut [14] (fun fv wx => fv = .int .i64 xe ∧ Two [gO] base wx P Q de de ∧ Below base w6 wx ∧ wx.heap[gO]? = w6.heap[gO]?)
      case first =>
        clear HTW6'
        have hst := HST.out
        have hlb := HIN6.out.lb
        by_cases h1 : ox = 1
        · have HE : Hid (Dk.D.exE d ⟨ox, oi, ob, op⟩ = d.writeE oi ob ∧ Dk.D.ex d ⟨ox, oi, ob, op⟩ = d.write oi ob) := Lib.hid (by subst h1; exact ⟨rfl, rfl⟩)
          have HQ := Lib.hid (And.intro (HXE.out.trans HE.out.1) (HDE.out.trans HE.out.2))
          have t1 : (ox == 1) = true := by simpa using h1
          clear h1
          go_wp2_with fail
          refine (write_tw HTW6.out HBZ6.out hst oi mA mcA ob hlb HIN6.out.b).mono ?_
          rintro e w7 ⟨rfl, ht7, hb7, hx7⟩
          go_wp2_with fail
          go_meet
          exact ⟨by rw [HQ.out.1], by rw [HQ.out.2] at ht7 ⊢; exact ht7, hb7, hx7 gO (by simp)⟩
        have t1 : (ox == 1) = false := by simpa using h1
        by_cases h2 : ox = 2
        · have HE : Hid (Dk.D.exE d ⟨ox, oi, ob, op⟩ = d.syncE ∧ Dk.D.ex d ⟨ox, oi, ob, op⟩ = d.sync) := Lib.hid (by subst h2; exact ⟨rfl, rfl⟩)
          have HQ := Lib.hid (And.intro (HXE.out.trans HE.out.1) (HDE.out.trans HE.out.2))
          have t2 : (ox == 2) = true := by simpa using h2
          clear h2
          go_wp2_with fail
          refine (sync_tw HTW6.out HBZ6.out (by omega)).mono ?_
          rintro e w7 ⟨rfl, ht7, hb7, hx7⟩
          go_wp2_with fail
          go_meet
          exact ⟨by rw [HQ.out.1], by rw [HQ.out.2] at ht7 ⊢; exact ht7, hb7, hx7 gO (by simp)⟩
        have t2 : (ox == 2) = false := by simpa using h2
        by_cases h3 : ox = 3
        · have HE : Hid (Dk.D.exE d ⟨ox, oi, ob, op⟩ = 0 ∧ Dk.D.ex d ⟨ox, oi, ob, op⟩ = d.drop) := Lib.hid (by subst h3; exact ⟨rfl, rfl⟩)
          have HQ := Lib.hid (And.intro (HXE.out.trans HE.out.1) (HDE.out.trans HE.out.2))
          have t3 : (ox == 3) = true := by simpa using h3
          clear h3
          go_wp2_with fail
          refine (drop_tw HTW6.out HBZ6.out).mono ?_
          rintro e w7 ⟨rfl, ht7, hb7, hx7⟩
          go_wp2_with fail
          go_meet
          exact ⟨by rw [HQ.out.1], by rw [HQ.out.2] at ht7 ⊢; exact ht7, hb7, hx7 gO (by simp)⟩
        have t3 : (ox == 3) = false := by simpa using h3
        by_cases h4 : ox = 4
        · have HE : Hid (Dk.D.exE d ⟨ox, oi, ob, op⟩ = 0 ∧ Dk.D.ex d ⟨ox, oi, ob, op⟩ = d.crash ob) := Lib.hid (by subst h4; exact ⟨rfl, rfl⟩)
          have HQ := Lib.hid (And.intro (HXE.out.trans HE.out.1) (HDE.out.trans HE.out.2))
          have t4 : (ox == 4) = true := by simpa using h4
          clear h4
          go_wp2_with fail
          refine (crash_tw HTW6.out HBZ6.out (by omega) mA mcA ob hlb HIN6.out.b).mono ?_
          rintro e w7 ⟨rfl, ht7, hb7, hx7⟩
          go_wp2_with fail
          go_meet
          exact ⟨by rw [HQ.out.1], by rw [HQ.out.2] at ht7 ⊢; exact ht7, hb7, hx7 gO (by simp)⟩
        have t4 : (ox == 4) = false := by simpa using h4
        by_cases h5 : ox = 5
        · have HE : Hid (Dk.D.exE d ⟨ox, oi, ob, op⟩ = 0 ∧ Dk.D.ex d ⟨ox, oi, ob, op⟩ = { d with plan := op }) := Lib.hid (by subst h5; exact ⟨rfl, rfl⟩)
          have HQ := Lib.hid (And.intro (HXE.out.trans HE.out.1) (HDE.out.trans HE.out.2))
          have t5 : (ox == 5) = true := by simpa using h5
          clear h5
          obtain ⟨b, hbQ, r1, r2, r3, _, _, r5⟩ := HTW6.out.snd
          have HR1 := Lib.hid r1
          have HR2 := Lib.hid r2
          have HR3 := Lib.hid r3
          have HR5 := Lib.hid r5
          have HBQ := Lib.hid hbQ
          clear r1 r2 r3 r5 hbQ
          obtain ⟨i1, hi1, hz3, hz4, hz5⟩ := info_parts Try.infoBool
          have z3 : ∀ oo : Obj, (w6.alloc oo).cell? ⟨gO, 3, none⟩ = some (.slice mG op.length mcG) := fun oo => (World.cell?_alloc_lt w6 _ _ (lt_of_blk' HO6.out)).trans q3
          have HP0 := Lib.hid HIN6.out.p
          obtain ⟨pl, hpl2⟩ : ∃ pl, pl = op.length := ⟨_, rfl⟩
          have hpl3 : pl ≤ 1048576 := by rw [hpl2]; exact hpl
          have HCL : Hid (0 < pl → ∃ ad, mG = some ad ∧ ∀ jj u, (op.map Value.bool)[jj]? = some u → (w6.alloc (.cells #[] 4)).cell? (ad.add jj) = some u) := Lib.hid (fun h0 => by
            obtain ⟨b2, off2, e, hlt2, hc2⟩ := HP0.out.2 (by rw [← hpl2]; exact h0)
            refine ⟨_, e, fun jj u hu => ?_⟩
            have hj : jj < op.length := by have := (List.getElem?_eq_some_iff.1 hu).1; simpa using this
            rw [Addr.add_mid, World.cell?_alloc_lt w6 _ _ (show b2 < w6.heap.size from Nat.lt_of_lt_of_le hlt2 HBZ6.out), hc2 jj hj, ← hu]
            simp [List.getElem?_eq_getElem hj])
          have HNL : Hid ((op.map Value.bool).length = pl * 1) := Lib.hid (by rw [hpl2]; simp)
          have hone : ∀ u ∈ op.map Value.bool, u.oneCell' = true := by
            intro u hu
            obtain ⟨c, _, rfl⟩ := List.mem_map.1 hu
            rfl
          have HONE := Lib.hid hone
          obtain ⟨news, hnw⟩ : ∃ news, news = op.map Value.bool := ⟨_, rfl⟩
          rw [← hnw] at HCL HNL HONE
          have HNW := Lib.hid hnw
          rw [← hpl2] at q3 z3
          have HPL := Lib.hid hpl2
          clear hone hnw hpl2
          go_wp2_with (at_builtin; refine wpList_append_gen rfl _ _ 30 rfl w6.heap.size 4 i1 (.bool false) 1 1 Try.underlying30 hi1 hz3 hz4 hz5 rfl (by omega) (.slice (some ⟨w6.heap.size, 0, none⟩) 0 0) 0 [] rfl (own_empty w6 _ _ _ (Nat.le_refl _) _ rfl) mG pl mcG news rfl HNL.out HCL.out HONE.out (by unfold maxLen; omega) (by omega) (by simp) ?_; intro v1 w7 hown1 hgrow1 hat1; rw [Nat.zero_add, List.nil_append] at hown1; obtain ⟨G, cG, rfl, hcG, hmax, _, hblk⟩ := own_form hown1; clear hat1; have hb7 : Below w6.heap.size w6 w7 := ((Below.refl _ _).alloc (Nat.le_refl _) _).grown hgrow1 (by simp) (fun q hq => by simp [Value.ownBlock] at hq; omega); have h7 := HR1.out.same (fun x hx => hb7.block x (HR2.out.all x hx)); have k2 := h7.c.2.2.1; have kf := h7.fr 2; rw [HBQ.out] at k2 kf; have H7 := Lib.hid h7; have HB7 := Lib.hid hb7; have HOWN := Lib.hid hown1; have HBL := Lib.hid hblk; have HCG := Lib.hid (And.intro hcG hmax); clear h7 hb7 hown1 hblk hgrow1)
          go_meet
          have hown := HOWN.out
          rw [HNW.out, HPL.out] at hown
          have hrp := r_plan HR1.out HR2.out HR3.out HB7.out G cG op (boc_own hown) (by rw [← HPL.out]; have := HCG.out; unfold maxLen at this; omega) (fun x hx => ⟨(HBL.out x hx).1, (HBL.out x hx).2.1⟩)
          rw [HBQ.out, ← HPL.out] at hrp
          obtain ⟨y1, y2, y3⟩ := HR5.out _ _ hrp HBZ6.out
          exact ⟨by rw [HQ.out.1], by rw [HQ.out.2] at y1 ⊢; exact y1, y2, y3 gO (by simp)⟩
        have t5 : (ox == 5) = false := by simpa using h5
        by_cases h6 : ox = 6
        · have HE : Hid (Dk.D.exE d ⟨ox, oi, ob, op⟩ = 0 ∧ Dk.D.ex d ⟨ox, oi, ob, op⟩ = d.stop oi) := Lib.hid (by subst h6; exact ⟨rfl, rfl⟩)
          have HQ := Lib.hid (And.intro (HXE.out.trans HE.out.1) (HDE.out.trans HE.out.2))
          have t6 : (ox == 6) = true := by simpa using h6
          clear h6
          go_wp2_with fail
          refine (stop_tw HTW6.out HBZ6.out oi HIN6.out.i).mono ?_
          rintro e w7 ⟨rfl, ht7, hb7, hx7⟩
          go_wp2_with fail
          go_meet
          exact ⟨by rw [HQ.out.1], by rw [HQ.out.2] at ht7 ⊢; exact ht7, hb7, hx7 gO (by simp)⟩
        have t6 : (ox == 6) = false := by simpa using h6
        have HE : Hid (Dk.D.exE d ⟨ox, oi, ob, op⟩ = 0 ∧ Dk.D.ex d ⟨ox, oi, ob, op⟩ = d) := Lib.hid (by
          unfold Dk.D.exE Dk.D.ex
          dsimp only
          rw [if_neg h1, if_neg h2, if_neg h1, if_neg h2, if_neg h3, if_neg h4, if_neg h5, if_neg h6]
          exact ⟨rfl, rfl⟩)
        have HQ := Lib.hid (And.intro (HXE.out.trans HE.out.1) (HDE.out.trans HE.out.2))
        clear h1 h2 h3 h4 h5 h6
        go_wp2_with fail
        go_meet
        exact ⟨by rw [HQ.out.1], by have h := HTW6.out; rw [HQ.out.2] at h ⊢; exact h, Below.refl _ _, rfl⟩
      case rest =>
        obtain ⟨hc0, htw7, hb7, hg7⟩ := hcut
        subst hc0
        have HB7 := Lib.hid (HB6.out.trans hb7)
        have hO7 : wc.heap[gO]? = some (.cells #[.int .i64 ox, .int .i64 oi, .slice mA ob.length mcA, .slice mG op.length mcG] 32 (0, 0)) := hg7.trans HO6.out
        have HBZ7 : Hid (base ≤ wc.heap.size) := Lib.hid (Nat.le_trans HBZ6.out hb7.size)
        have HSTE : Hid (de.st.length ≤ 1048576) := Lib.hid (by rw [HDE.out]; have := Dk.ex_st d ⟨ox, oi, ob, op⟩; have := HST.out; omega)
        have HTW7 := Lib.hid htw7
        have HO7 := Lib.hid hO7
        clear q0 q1 q2 q3 hb7 hg7 HTW6 HTW6' HIN6 HO6 HB6 HBZ6 HXE HST htw7 hO7
        obtain ⟨F, hFd⟩ := HTW7.out.hd
        obtain ⟨b, hbQ, r1, r2, r3, _, _, _⟩ := HTW7.out.snd
        have hRK : ∀ wx, Below wc.heap.size wc wx → RAt wx b de := fun wx hx => r1.same (fun x hx' => hx.block x (r2.all x hx'))
        have hRT : ∀ wx, Below wc.heap.size wc wx → RThere wx b := fun wx hx => r2.more hx.size
        have hHK : ∀ wx, Below wc.heap.size wc wx → HD F wx P de := fun wx hx => hFd.keep hx
        have hON : ∀ wx, Below wc.heap.size wc wx → Calls Try.prog 19 #[.pointer (some ⟨P, 0, none⟩)] wx fun e w' => e = .returned (.bool de.on) ∧ wx = w' := fun wx hx => on_sd (hHK wx hx).sd
        have hSG : ∀ wx, Below wc.heap.size wc wx → Calls Try.prog 20 #[.pointer (some ⟨P, 0, none⟩)] wx fun e w' => e = .returned (.int .i64 de.st.length) ∧ wx = w' := fun wx hx => staged_sd (hHK wx hx).sd
        have hDR : ∀ i wx, Below wc.heap.size wc wx → Calls Try.prog 22 #[.pointer (some ⟨P, 0, none⟩), .int .i64 i] wx fun e w' => ∃ A c, e = .returned (.slice A (de.read i).length c) ∧ BIn w' A (de.read i) ∧ Below wc.heap.size wc w' := fun i wx hx => by
          by_cases hi : i < 0 ∨ (de.n : Int) ≤ i
          · have e : de.read i = [] := by unfold Dk.D.read; rw [if_pos hi]
            rw [e]
            obtain ⟨a, rfl, h1, _, _⟩ := hHK wx hx
            refine (read_none wx a de i h1 hi).mono ?_
            rintro e w' ⟨rfl, rfl⟩
            exact ⟨none, 0, rfl, fun h => absurd h (by simp), hx⟩
          · obtain ⟨j, rfl⟩ := Int.eq_ofNat_of_zero_le (show 0 ≤ i by omega)
            have e : de.read (j : Int) = Dk.seen j (Dk.blk de.kept j) de.st := by unfold Dk.D.read; rw [if_neg hi]; rfl
            have hj : j < de.n := by omega
            have hlen : (de.read (j : Int)).length = 32 := by rw [e]; exact Dk.seen_ok j _ _ (Dk.blk_len r1.ok.kept hj) (fun s hs => (r1.ok.st s hs).2)
            rw [hlen, e]
            refine (read_sd (hHK wx hx).sd HSTE.out j hj).mono ?_
            rintro e w' ⟨g, rfl, _, hgb, hb⟩
            exact ⟨some ⟨g, 0, none⟩, 32, rfl, cB_in hgb, hx.trans (hb.mono hx.size)⟩
        have hRR : ∀ i wx, Below wc.heap.size wc wx → Calls Try.prog 23 #[.pointer (some ⟨Q, 0, none⟩), .int .i64 i] wx fun e w' => ∃ A c, e = .returned (.slice A (de.read i).length c) ∧ BIn w' A (de.read i) ∧ wx = w' := fun i wx hx => by
          rw [← hbQ]
          by_cases hi : i < 0 ∨ (de.n : Int) ≤ i
          · have e : de.read i = [] := by unfold Dk.D.read; rw [if_pos hi]
            rw [e]
            refine (ref_read_none wx b de i (hRK wx hx) hi).mono ?_
            rintro e w' ⟨rfl, rfl⟩
            exact ⟨none, 0, rfl, fun h => absurd h (by simp), rfl⟩
          · obtain ⟨j, rfl⟩ := Int.eq_ofNat_of_zero_le (show 0 ≤ i by omega)
            have e : de.read (j : Int) = Dk.seen j (Dk.blk de.kept j) de.st := by unfold Dk.D.read; rw [if_neg hi]; rfl
            have hj : j < de.n := by omega
            have hlen : (de.read (j : Int)).length = 32 := by rw [e]; exact Dk.seen_ok j _ _ (Dk.blk_len r1.ok.kept hj) (fun s hs => (r1.ok.st s hs).2)
            rw [hlen, e]
            refine (ref_read_any wx b de j (hRK wx hx) (hRT wx hx) hj HSTE.out).mono ?_
            rintro e w' ⟨⟨A, c, rfl, hA⟩, rfl⟩
            exact ⟨A, c, rfl, hA, rfl⟩
        have hSM : ∀ i wx A c A' c', BIn wx A (de.read i) → BIn wx A' (de.read i) → Calls Try.prog 21 #[.slice A (de.read i).length c, .slice A' (de.read i).length c'] wx fun e w' => e = .returned (.bool true) ∧ wx = w' := fun i wx A c A' c' h1 h2 => by
          have := same_any wx A A' (de.read i) (de.read i) c c' h1 h2
          rw [decide_eq_true rfl] at this
          exact this
        have hBY : ∀ wx, Below wc.heap.size wc wx → Calls Try.prog 24 #[.pointer (some ⟨P, 0, none⟩)] wx fun e w' => ∃ A c, e = .returned (.slice A de.kept.length c) ∧ BIn w' A de.kept ∧ Below wc.heap.size wc w' := fun wx hx => by
          refine (bytes_sd (hHK wx hx).sd).mono ?_
          rintro e w' ⟨⟨A, c, rfl, hown⟩, hb⟩
          exact ⟨A, c, rfl, own_in hown, hx.trans (hb.mono hx.size)⟩
        have hSK : ∀ wx A c, Below wc.heap.size wc wx → BIn wx A de.kept → Calls Try.prog 21 #[.slice A de.kept.length c, .slice b.K de.kept.length b.cK] wx fun e w' => e = .returned (.bool true) ∧ wx = w' := fun wx A c hx h1 => by
          have := same_any wx A b.K de.kept de.kept c b.cK h1 (own_in (hRK wx hx).kept)
          rw [decide_eq_true rfl] at this
          exact this
        have hKK : ∀ wx, Below wc.heap.size wc wx → wx.cell? ⟨Q, 3, none⟩ = some (.bool (decide (de.left = 0))) ∧ wx.cell? ⟨Q, 1, none⟩ = some (.slice b.S de.st.length b.cS) ∧ wx.cell? ⟨Q, 0, none⟩ = some (.slice b.K de.kept.length b.cK) ∧ wx.cell? ⟨gO, 1, none⟩ = some (.int .i64 oi) ∧ Below wc.heap.size wc wx := fun wx hx => by
          obtain ⟨k0, k1, _, k3, _⟩ := (hRK wx hx).c
          rw [hbQ] at k0 k1 k3
          refine ⟨k3, k1, k0, ?_, hx⟩
          rw [cell_of_row wx gO 1 _ _ _ ((hx.block gO (lt_of_blk' HO7.out)).trans HO7.out)]
          rfl
        obtain ⟨onb, honb⟩ : ∃ onb, onb = de.on := ⟨_, rfl⟩
        obtain ⟨ofb, hofb⟩ : ∃ ofb, ofb = decide (de.left = 0) := ⟨_, rfl⟩
        have hoo : (onb == ofb) = false := by
          rw [honb, hofb]
          unfold Dk.D.on
          by_cases h0 : de.left = 0 <;> simp [h0]
        rw [← honb] at hON
        rw [← hofb] at hKK
        obtain ⟨la, hla⟩ : ∃ la, la = (de.read at0).length := ⟨_, rfl⟩
        obtain ⟨li, hli⟩ : ∃ li, li = (de.read oi).length := ⟨_, rfl⟩
        obtain ⟨ls, hls⟩ : ∃ ls, ls = de.st.length := ⟨_, rfl⟩
        obtain ⟨lk, hlk⟩ : ∃ lk, lk = de.kept.length := ⟨_, rfl⟩
        have hDA := hDR at0
        have hDI := hDR oi
        have hRA := hRR at0
        have hRI := hRR oi
        have hSA := hSM at0
        have hSI := hSM oi
        rw [← hla] at hDA hRA hSA
        rw [← hli] at hDI hRI hSI
        rw [← hls] at hSG hKK
        rw [← hlk] at hBY hSK hKK
        have HON := Lib.hid hON
        have HSG := Lib.hid hSG
        have HDA := Lib.hid hDA
        have HDI := Lib.hid hDI
        have HRA := Lib.hid hRA
        have HRI := Lib.hid hRI
        have HSA := Lib.hid hSA
        have HSI := Lib.hid hSI
        have HBY := Lib.hid hBY
        have HSK := Lib.hid hSK
        have HKK := Lib.hid hKK
        clear hON hSG hDR hRR hSM hBY hSK hKK hRK hRT hHK hDA hDI hRA hRI hSA hSI hla hli hls hlk honb hofb r1 r2 r3 hFd hbQ
        have nxe : ((xe : Int) != (xe : Int)) = false := by simp
        have nls : ((ls : Int) != (ls : Int)) = false := by simp
        have rr : Below wc.heap.size wc wc.drew := Below.drew (Below.refl _ _)
        have RR := Lib.hid rr
        clear rr
        go_upto_region 28 with fail
        go_region_held3 (fun wx => wx.cell? ⟨Q, 3, none⟩ = some (.bool ofb) ∧ wx.cell? ⟨Q, 1, none⟩ = some (.slice b.S ls b.cS) ∧ wx.cell? ⟨Q, 0, none⟩ = some (.slice b.K lk b.cK) ∧ wx.cell? ⟨gO, 1, none⟩ = some (.int .i64 oi) ∧ Below wc.heap.size wc wx)
          (first
            | exact HKK.out _ hb17
            | exact HKK.out _ hb14
            | exact HKK.out _ hb11
            | exact HKK.out _ RR.out)
          (first
            | (go_at_call 21; refine (HSK.out _ A17 c17 hb17 hin17).mono ?_; rintro e w18 ⟨rfl, rfl⟩)
            | (go_at_call 24; refine (HBY.out _ hb14).mono ?_; rintro e w17 ⟨A17, c17, rfl, hin17, hb17⟩)
            | (go_at_call 21; refine (HSI.out _ A14 c14 A15 c15 hin14 hin15).mono ?_; rintro e w16 ⟨rfl, rfl⟩)
            | (go_at_call 23; refine (HRI.out _ hb14).mono ?_; rintro e w15 ⟨A15, c15, rfl, hin15, rfl⟩)
            | (go_at_call 22; refine (HDI.out _ hb11).mono ?_; rintro e w14 ⟨A14, c14, rfl, hin14, hb14⟩)
            | (go_at_call 21; refine (HSA.out _ A11 c11 A12 c12 hin11 hin12).mono ?_; rintro e w13 ⟨rfl, rfl⟩)
            | (go_at_call 23; refine (HRA.out _ hb11).mono ?_; rintro e w12 ⟨A12, c12, rfl, hin12, rfl⟩)
            | (go_at_call 22; refine (HDA.out _ RR.out).mono ?_; rintro e w11 ⟨A11, c11, rfl, hin11, hb11⟩)
            | (go_at_call 20; refine (HSG.out _ RR.out).mono ?_; rintro e w10 ⟨rfl, rfl⟩)
            | (go_at_call 19; refine (HON.out _ RR.out).mono ?_; rintro e w9 ⟨rfl, rfl⟩))
        try clear hH
        have HBE := Lib.hid (HB7.out.trans (hb17.mono HBZ7.out))
        have HTE := Lib.hid ((HTW7.out.keep hb17).sub (Y := []) (fun x hx => by cases hx))
        clear HON HSG HDA HDI HRA HRI HSA HSI HBY HSK HKK hb17 hb14 hb11 hin17 hin14 hin15 hin11 hin12
        go_wp2_with fail
        go_roundw
        case rel => exact ⟨k + 1, by omega, by go_num, by rw [HSN.out]; exact HTE.out, HBE.out⟩
        case measure => simp [intOf]; omega
    · have hkI : ¬ (k : Int) < (n : Int) := by omega
      obtain ⟨dl, hdl⟩ : ∃ dl, dl = Dk.run d0 (l.take k) := ⟨_, rfl⟩
      rw [← hdl] at htw
      obtain ⟨F, hFd⟩ := htw.hd
      obtain ⟨b, hbQ, r1, _⟩ := htw.snd
      have hL1 := len_sd hFd.sd
      have hL2 := ref_len_any wr b dl r1
      rw [hbQ] at hL2
      have HBE : Hid (Below w.heap.size w wr) := Lib.hid (by rw [← HBS.out]; exact hbr)
      have nn : ((dl.n : Int) == (dl.n : Int)) = true := by simp
      clear hdl htw hFd r1 hbr hbQ
      go_wp2_with (first | (refine hL1.mono ?_; rintro e w' ⟨rfl, rfl⟩) | (refine hL2.mono ?_; rintro e w' ⟨rfl, rfl⟩))
      go_ret
      exact ⟨rfl, HBE.out⟩

/-- THE STATEMENT's CALL, at any input. -/
theorem diskPlays_any (w : World) (bl at0 : Int) (Al : Option Addr) (cl : Nat) (l : List Dk.O) (hO : OpsIn w w.heap.size Al l) (hll : l.length ≤ 9223372036854775807) :
    Calls Try.prog 3 #[.int .i64 bl, .slice Al l.length cl, .int .i64 at0] w (AwakePost w) := by
  by_cases h : Dk.fewB l = false ∨ 40 < bl
  · exact plays_out w bl at0 Al cl l hO hll h
  · refine plays_in w bl at0 Al cl l hO hll ?_ (fun h' => h (.inr h'))
    cases hf : Dk.fewB l with
    | true => rfl
    | false => exact absurd (.inl hf) h
end Go.Proofs.Ytoaadallbpelbaa
