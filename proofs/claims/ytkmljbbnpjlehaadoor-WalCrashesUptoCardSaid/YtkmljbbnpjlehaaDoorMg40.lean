/- WalCrashes. Condition: the table of sums reads as its text lays it. WalCrashes, its numbers read. Condition: the table of sums reads as its text lays it. -/
import Derived.Test.YtkmljbbnpjlehaaDoorMg39
namespace Go.Proofs.YtkmljbbnpjlehaaDoor
set_option maxRecDepth 8000
open Go.RowKit

set_option maxHeartbeats 6400000 in
theorem walCrashes_any (bl st : Nat) (A A4 : Option Addr) (cap c4 n n4 : Nat) (l : List Wl.O) (ox oi : Int) (ob : List UInt8) (ol : List (List UInt8)) (op : List Bool) (mA mL mG : Option Addr) (mcA mcL mcG : Nat) (cuts : List UInt8) (w : World) (hH : Hs w) (hz : 0 < w.heap.size) (hbl : bl ≤ 255) (hst : st ≤ 255)
    (hn : l.length = n) (hl : WosIn w w.heap.size A l) (hll : n ≤ 1048576) (ho : WoIn w w.heap.size ⟨ox, oi, ob, ol, op⟩ ⟨mA, mcA, mL, mcL, mG, mcG⟩) (hn4 : cuts.length = n4) (hu : BCells w w.heap.size A4 cuts) (_hc4 : n4 ≤ c4) (_hm4 : c4 ≤ 9223372036854775807) :
    Calls Tryd.prog 5 #[.int .u8 (bl : Int), .slice A n cap, .agg #[.int .i64 ox, .int .i64 oi, .slice mA ob.length mcA, .slice mL ol.length mcL, .slice mG op.length mcG], .int .u8 (st : Int), .slice A4 n4 c4] w fun e w' => e = .returned (.bool true) ∧ Below w.heap.size w w' := by
  obtain ⟨nb, hnb⟩ : ∃ q, q = ob.length := ⟨_, rfl⟩
  obtain ⟨nl, hnl⟩ : ∃ q, q = ol.length := ⟨_, rfl⟩
  obtain ⟨np, hnp⟩ : ∃ q, q = op.length := ⟨_, rfl⟩
  obtain ⟨few, hfew⟩ : ∃ q, q = Wl.fewO (⟨ox, oi, ob, ol, op⟩ :: l) := ⟨_, rfl⟩
  have HOI := Lib.hid ho
  obtain ⟨hob, hol, hop, hcb, hcl, hlq, hlp, hoi⟩ := ho
  dsimp only at hob hol hop hcb hcl hlq hlp hoi
  rw [← hnb] at hcb
  rw [← hnl] at hcl
  rw [← hnp] at hlp
  rw [← hnb, ← hnl, ← hnp]
  obtain ⟨wb, hwb⟩ : ∃ wb, wb = w.alloc (.cells #[.int .i64 ox, .int .i64 oi, .slice mA nb mcA, .slice mL nl mcL, .slice mG np mcG] 40) := ⟨_, rfl⟩
  have hbb : Below w.heap.size w wb := by rw [hwb]; exact (Below.refl _ _).alloc (Nat.le_refl _) _
  have hbx : wb.rangeAt w.heap.size 0 [.int .i64 ox, .int .i64 oi, .slice mA nb mcA, .slice mL nl mcL, .slice mG np mcG] := fun j v hv => by
    rw [Nat.zero_add, hwb]
    exact cell_of_row _ _ j _ _ _ (heap_alloc_new w _) |>.trans (by simpa using hv)
  have hbl1 : w.heap.size < wb.heap.size := by rw [hwb]; simp
  have HBX : Hid (∀ w', Below wb.heap.size wb w' → w'.rangeAt w.heap.size 0 [.int .i64 ox, .int .i64 oi, .slice mA nb mcA, .slice mL nl mcL, .slice mG np mcG]) := Lib.hid (fun w' hb' j v hv => (hb'.cell (p := ⟨w.heap.size, 0 + j, none⟩) hbl1).trans (hbx j v hv))
  have HAW := Lib.hid (awake10_any wb (hH.next hbb) (Nat.lt_of_lt_of_le hz hbb.size))
  have HWB := Lib.hid hwb
  have HBB := Lib.hid hbb
  have HN := Lib.hid hn
  have HNB := Lib.hid hnb
  have HNL := Lib.hid hnl
  have HNP := Lib.hid hnp
  have HN4 := Lib.hid hn4
  have HFEW := Lib.hid hfew
  have HH := Lib.hid hH
  have HHLT := Lib.hid hz
  have HL := Lib.hid hl
  have HU := Lib.hid hu
  have HO := Lib.hid (And.intro hob (And.intro hol hop))
  have HLQ := Lib.hid hlq
  clear hn hnb hnl hnp hn4 hfew hH hz hl hu hob hol hop hlq hbb hbx
  go_enter Tryd.func5, Tryd.ntmps5
  go_wp2_with fail
  rw [← hwb]
  clear hwb
  refine HAW.out.mono ?_
  rintro _ w1 ⟨rfl, hb1⟩
  have HB1 := Lib.hid hb1
  have hrg1 := HBX.out w1 hb1
  have HIN1 : Hid (WoIn w1 w1.heap.size ⟨ox, oi, ob, ol, op⟩ ⟨mA, mcA, mL, mcL, mG, mcG⟩ ∧ WosIn w1 w1.heap.size A l) := Lib.hid (by
    have hq := HBB.out.trans (hb1.mono HBB.out.size)
    have h1 := HOI.out.keep hq
    exact ⟨h1.moreB hq.size, fun h0 => by
      obtain ⟨b, off, e, hlt, hc⟩ := (HL.out.keep hq) h0
      exact ⟨b, off, e, Nat.lt_of_lt_of_le hlt hq.size, fun k hk => by
        obtain ⟨m, h2, h3⟩ := hc k hk
        exact ⟨m, h2, h3.moreB hq.size⟩⟩⟩)
  clear hb1 HAW
  have HNN : Hid (l.length = n ∧ n ≤ 1048576) := Lib.hid ⟨HN.out, hll⟩
  have hba : Below w1.heap.size w1 (w1.alloc (.cells #[.int .i64 ox, .int .i64 oi, .slice mA nb mcA, .slice mL nl mcL, .slice mG np mcG] 40)) := (Below.refl _ _).alloc (Nat.le_refl _) _
  have HPRE : Hid (∀ k (_ : k < [(⟨ox, oi, ob, ol, op⟩ : Wl.O)].length), ∃ m : Wo, (∀ j v, (woCells [(⟨ox, oi, ob, ol, op⟩ : Wl.O)][k] m)[j]? = some v → [.int .i64 ox, .int .i64 oi, .slice mA nb mcA, .slice mL nl mcL, .slice mG np mcG][k * 5 + j]? = some v) ∧ WoIn (w1.alloc (.cells #[.int .i64 ox, .int .i64 oi, .slice mA nb mcA, .slice mL nl mcL, .slice mG np mcG] 40)) w1.heap.size [(⟨ox, oi, ob, ol, op⟩ : Wl.O)][k] m) := Lib.hid (fun k hk => by
    have hk0 : k = 0 := by simp at hk; omega
    subst hk0
    refine ⟨⟨mA, mcA, mL, mcL, mG, mcG⟩, fun j v hv => ?_, HIN1.out.1.keep hba⟩
    rw [HNB.out, HNL.out, HNP.out, Nat.zero_mul, Nat.zero_add]
    exact hv)
  have HWOS := Lib.hid (HIN1.out.2.keep hba)
  have HOWN : Hid (World.ownsRow (w1.alloc (.cells #[.int .i64 ox, .int .i64 oi, .slice mA nb mcA, .slice mL nl mcL, .slice mG np mcG] 40)) w1.heap.size 40 5 (.slice (some ⟨w1.heap.size, 0, none⟩) 1 1) 1 [.int .i64 ox, .int .i64 oi, .slice mA nb mcA, .slice mL nl mcL, .slice mG np mcG]) := Lib.hid ⟨rfl, .inr ⟨w1.heap.size, 1, _, rfl, Nat.le_refl _, heap_alloc_new w1 _, Nat.le_refl _, by unfold maxLen; omega, rfl, rfl⟩⟩
  have HBA := Lib.hid hba
  clear hba
  go_wp2_with (first
    | ((with_reducible refine wpList_load_mid (op := ⟨some 22, _, _, _, _, _⟩) rfl 40 _ rfl w.heap.size 0 ?_ [.int .i64 ox, .int .i64 oi, .slice mA nb mcA, .slice mL nl mcL, .slice mG np mcG] _ hrg1 Tryd.underlying40 rfl (by kernel_rfl) ?_); exact rfl)
    | (at_builtin; refine ops_copy ?hw1 (.tmp 23) (.tmp 24) w1.heap.size w1.heap.size A 1 n cap [.int .i64 ox, .int .i64 oi, .slice mA nb mcA, .slice mL nl mcL, .slice mG np mcG] [⟨ox, oi, ob, ol, op⟩] l (by rfl) (by rfl) (by rfl) HNN.out.1 rfl (by omega) (by omega) HOWN.out HBA.out.size HPRE.out HWOS.out HNN.out.2 ?_; rotate_right; intro g1 cap1 w2 hwos2 hb2 hg2))
  have HFW := Lib.hid (fewO_any w2 (some ⟨g1, 0, none⟩) cap1 (⟨ox, oi, ob, ol, op⟩ :: l) hwos2 (by rw [List.length_cons, HNN.out.1]; omega))
  rw [List.length_cons, HNN.out.1, Nat.add_comm n 1, ← HFEW.out] at HFW
  have B2 := Lib.hid (HBA.out.trans hb2)
  have HBX1 : Hid (∀ w', Below w1.heap.size w1 w' → w'.rangeAt w.heap.size 0 [.int .i64 ox, .int .i64 oi, .slice mA nb mcA, .slice mL nl mcL, .slice mG np mcG]) := Lib.hid (fun w' hb' => HBX.out w' (HB1.out.trans (hb'.mono HB1.out.size)))
  have B0 := Lib.hid (HBB.out.trans ((HB1.out.trans (B2.out.mono HB1.out.size)).mono HBB.out.size))
  clear hwos2 hb2 hg2 hrg1 HPRE HWOS HOWN HBA
  refine HFW.out.mono ?_
  rintro _ w' ⟨rfl, rfl⟩
  clear HFW
  cases few with
  | false =>
    go_wp2_with fail
    go_ret
    exact ⟨rfl, B0.out⟩
  | true =>
    by_cases h3 : 100 < n4
    · have i3 : (100 : Int) < (n4 : Int) := by omega
      go_wp2_with fail
      go_ret
      exact ⟨rfl, B0.out⟩
    have i3 : ¬ (100 : Int) < (n4 : Int) := by omega
    have q0 := HBX1.out w2 B2.out 0 _ rfl
    simp only [Nat.zero_add] at q0
    by_cases h12 : ox ≠ 1 ∧ ox ≠ 2
    · have i1 : (ox != 1) = true := by simpa using h12.1
      have i2 : (ox != 2) = true := by simpa using h12.2
      have j1 : ¬ ox = 1 := h12.1
      have j2 : ¬ ox = 2 := h12.2
      clear h12
      go_wp2_with fail
      go_ret
      exact ⟨rfl, B0.out⟩
    have hor : ox = 1 ∨ ox = 2 := by omega
    go_upto_region 3 with fail
    go_cut [43] (fun t wx => t = .bool false ∧ wx = w2)
    case first =>
      clear h12
      rcases hor with rfl | rfl
      · go_wp2_with fail
        go_meet
        exact ⟨by rw [decide_eq_false (by omega)], rfl⟩
      · go_wp2_with fail
        go_meet
        exact ⟨by rw [decide_eq_false (by omega)], rfl⟩
    case rest =>
    obtain ⟨hc1, hc2⟩ := hcut
    subst hc1
    replace hc2 := hc2.symm
    subst hc2
    clear q0
    have hfa : ∀ x ∈ (⟨ox, oi, ob, ol, op⟩ : Wl.O) :: l, Fr.few x.l = true := fun x hx => by
      have h := HFEW.out.symm
      unfold Wl.fewO at h
      have h2 := List.all_eq_true.1 (Bool.and_eq_true_iff.1 h).1 x hx
      unfold Wl.okO at h2
      exact (Bool.and_eq_true_iff.1 h2).1
    have HFO : Hid (Fr.few ol = true) := Lib.hid (hfa _ (List.mem_cons_self))
    have hq2 := HBB.out.trans ((HB1.out.trans (B2.out.mono HB1.out.size)).mono HBB.out.size)
    have HIN2 : Hid (WosIn w2 w2.heap.size A l) := Lib.hid (fun h0 => by
      obtain ⟨b, off, e, hlt, hc⟩ := (HIN1.out.2.keep B2.out) h0
      exact ⟨b, off, e, Nat.lt_of_lt_of_le hlt B2.out.size, fun k hk => by
        obtain ⟨m, h2, h3⟩ := hc k hk
        exact ⟨m, h2, h3.moreB B2.out.size⟩⟩)
    have HO2 : Hid (BCells w2 w2.heap.size mA ob ∧ LC w2 w2.heap.size mL ol) := Lib.hid ⟨((HO.out.1.keepB hq2 (Nat.le_refl _)).moreB hq2.size), ((HO.out.2.1.keepB hq2 (Nat.le_refl _)).moreB hq2.size)⟩
    have HU2 : Hid (BCells w2 w2.heap.size A4 cuts) := Lib.hid ((HU.out.keepB hq2 (Nat.le_refl _)).moreB hq2.size)
    have HH2 := Lib.hid (HH.out.next hq2)
    have HHLT2 : Hid (0 < w2.heap.size) := Lib.hid (Nat.lt_of_lt_of_le HHLT.out hq2.size)
    obtain ⟨nn, hnn⟩ : ∃ nn, nn = 4 + bl % 27 := ⟨_, rfl⟩
    have HNN4 : Hid (4 ≤ nn ∧ nn ≤ 512) := Lib.hid (by omega)
    have HWK := Lib.hid (walked_any w2 HH2.out HHLT2.out nn HNN4.out.1 HNN4.out.2 A cap l HIN2.out (by rw [HNN.out.1]; exact HNN.out.2) (fun x hx => hfa x (List.mem_cons_of_mem _ hx)))
    rw [HNN.out.1, hnn, show ((4 + bl % 27 : Nat) : Int) = 4 + ((bl : Int) % 27) by omega, ← hnn] at HWK
    have HGD : Hid (Wl.Good (Dk.cutAt cuts 0) nn (Wl.walkP nn l)) := Lib.hid (by
      obtain ⟨k1, k2, k3, k4⟩ := dk_new nn HNN4.out.2
      exact Wl.walk_good (Wl.cut_le cuts 0) _ _ ⟨by rw [k2]; exact Wl.inv_new _ HNN4.out.1 HNN4.out.2, k1, k3, k4⟩)
    obtain ⟨s, hs⟩ : ∃ s, s = Wl.walkP nn l := ⟨_, rfl⟩
    rw [← hs] at HWK HGD
    obtain ⟨d, lg⟩ := s
    have HDS0 : Hid (∃ ds, ds = d.stop ((st : Int) % 31) ∧ ds = d.stop ((st % 31 : Nat) : Int) ∧ Wl.Inv (Dk.cutAt cuts 0) nn ds.kept lg ∧ ds.n = nn ∧ ds.st = []) := Lib.hid (by
      obtain ⟨k1, k2, k3⟩ := Wl.stopD_is d (some (st % 31))
      have e : d.stop ((st : Int) % 31) = Wl.stopD d (some (st % 31)) := by show d.stop ((st : Int) % 31) = d.stop (((st % 31 : Nat)) : Int); rw [show (((st % 31 : Nat)) : Int) = (st : Int) % 31 by omega]
      exact ⟨Wl.stopD d (some (st % 31)), e.symm, rfl, by rw [k1]; exact HGD.out.inv, by rw [k2]; exact HGD.out.dn, by rw [k3]; exact HGD.out.st⟩)
    obtain ⟨ds, hdsd, hdse, hds⟩ := HDS0.out
    have HDSD := Lib.hid hdsd
    have HDSE := Lib.hid hdse
    have HDS := Lib.hid hds
    clear hfa hq2 hnn hs hdsd hdse hds HDS0 HIN2 HIN1 HO HU HH HHLT h3
    have HALL : Hid (∃ (R : Int × Dk.D × Wl.L) (nx : List (List UInt8)), (∀ P L S w6, SZ w2.heap.size S w6 P L ds lg → Below w2.heap.size w2 w6 → Calls Tryd.prog 18 #[.pointer (some ⟨P, 0, none⟩), .pointer (some ⟨L, 0, none⟩), .agg #[.int .i64 ox, .int .i64 oi, .slice mA nb mcA, .slice mL nl mcL, .slice mG np mcG]] w6 fun e w' => e = .returned (.int .i64 R.1) ∧ ZPost w2.heap.size S w6 P L R.2.1 R.2.2 w') ∧ (∃ l', Wl.Found (Dk.cutAt cuts 0) nn (R.2.1.crash cuts).kept (R.2.1.crash cuts).n (Wl.rds lg) nx R.1 l') ∧ R.2.1.st.length ≤ 1048576 ∧ (ox = 1 → nx = Wl.rds lg ++ [ob]) ∧ (ox = 2 → nx = ol)) := Lib.hid (by
      rcases hor with rfl | rfl
      · refine ⟨Wl.append ds lg ob, _, fun P L S w6 hz6 H6 => do_append hz6 H6.size (HH2.out.next H6) HHLT2.out HDS.out.2.2 HDS.out.2.1 HDS.out.1 oi mA mL mG mcA nb nl mcL np mcG ob (HO2.out.1.keepB H6 (Nat.le_refl _)) HNB.out.symm hcb.1 hcb.2, by rw [HDSE.out]; exact HGD.out.append_crash (st % 31) ob, ?_, fun _ => rfl, fun h => by omega⟩
        have h := Wl.append_st ds lg ob (by rw [HDS.out.2.1]; exact HNN4.out.2)
        rw [HDS.out.2.2, List.length_nil] at h
        omega
      · refine ⟨Wl.replace ds lg ol, _, fun P L S w6 hz6 H6 => do_replace hz6 H6.size (HH2.out.next H6) HHLT2.out HDS.out.2.2 HDS.out.2.1 HDS.out.1 oi mA mL mG nb mcA nl mcL np mcG ol (HO2.out.2.keepB H6 (Nat.le_refl _)) HNL.out.symm hcl.1 hcl.2 (Nat.le_trans (Fr.okTotal_few HFO.out) (by decide)) HLQ.out, by rw [HDSE.out]; exact HGD.out.replace_crash (st % 31) ol, ?_, fun h => by omega, fun _ => rfl⟩
        have h := Wl.replace_st ds lg ol (by rw [HDS.out.2.1]; exact HNN4.out.2)
        rw [HDS.out.2.2, List.length_nil] at h
        omega)
    obtain ⟨R, nx, hdo, hfd, hst9, hnx1, hnx2⟩ := HALL.out
    have HDO := Lib.hid hdo
    have HFD := Lib.hid hfd
    have HST := Lib.hid hst9
    have HNX1 := Lib.hid hnx1
    have HNX2 := Lib.hid hnx2
    have HOR := Lib.hid hor
    clear hdo hfd hst9 hnx1 hnx2 hor h12 HALL
    go_wp2_with fail
    refine HWK.out.mono ?_
    rintro _ w3 ⟨P, L, rfl, hsz3, hb3⟩
    have HSZ3 := Lib.hid hsz3
    have H3 := Lib.hid hb3
    have HRC := Lib.hid (records_zo hsz3 (HH2.out.next hb3) HGD.out.inv)
    clear hsz3 hb3 HWK
    go_wp2_with fail
    refine HRC.out.mono ?_
    rintro _ w4 ⟨A5, c5, n5, cs5, rfl, hlr4, hb4⟩
    have HNR : Hid (NRow (fun b => b < w2.heap.size ∨ w3.heap.size ≤ b) w3.heap.size w4 A5 n5 c5 (Wl.rds lg) cs5) := Lib.hid (hlr4.nrow (P := fun b => b < w2.heap.size ∨ w3.heap.size ≤ b) (fun b h _ => .inr h))
    have HX4 := Lib.hid hb4
    have H4 := Lib.hid (H3.out.trans (hb4.mono H3.out.size))
    have HN5 := Lib.hid hlr4.len.symm
    have hn5 : n5 ≤ 16777216 := by
      have h := hlr4.len
      have h2 := (rows_of lg.fr).1
      have h3 := HGD.out.inv.used
      have h4 := Wl.areaBytes_lt HGD.out.inv.n512
      have h5 : (Wl.rds lg).length = (Fr.scan lg.fr).1.length := rfl
      dsimp only at h3 h4
      omega
    have hrg4 := HBX1.out w4 (B2.out.trans (H4.out.mono B2.out.size))
    have q0 := hrg4 0 _ rfl
    have q2 := hrg4 2 _ rfl
    have q3 := hrg4 3 _ rfl
    simp only [Nat.zero_add] at q0 q2 q3
    clear hlr4 hb4 HRC hrg4
    go_upto_if 66 with fail
    go_cut [16] (fun v wx => ∃ A6 n6 c6, v = .slice A6 n6 c6 ∧ nx.length = n6 ∧ LP (fun b => b < w2.heap.size ∨ w3.heap.size ≤ b) wx A5 (Wl.rds lg) ∧ LP (fun b => b < w2.heap.size ∨ w3.heap.size ≤ b) wx A6 nx ∧ Below w3.heap.size w3 wx)
    case first =>
      rcases HOR.out with rfl | rfl
      · have HROW : Hid (∀ W', Below w4.heap.size w4 W' → W'.ownsRow w3.heap.size 36 1 (.slice A5 n5 c5) n5 cs5) := Lib.hid (fun W' hb' => own_below HNR.out.row hb')
        have HONE := Lib.hid HNR.out.one
        have HQ2 : Hid (∀ W', Below w4.heap.size w4 W' → W'.cell? ⟨w.heap.size, 2, none⟩ = some (.slice mA nb mcA)) := Lib.hid (fun W' hb' => by
          have h := HBX1.out W' ((B2.out.trans (H4.out.mono B2.out.size)).trans (hb'.mono (Nat.le_trans B2.out.size H4.out.size))) 2 _ rfl
          simpa only [Nat.zero_add] using h)
        have q2a := HQ2.out (w4.alloc (.cells #[] 36)) ((Below.refl _ _).alloc (Nat.le_refl _) _)
        go_wp2_with fail
        go_region_law (first
          | (refine step_list_copy rfl (.tmp 67) (.tmp 68) w4.heap.size w3.heap.size _ A5 n5 c5 cs5 rfl (by rfl) (by rfl) (by first | exact allocAt rfl | exact allocAt (by simp <;> omega) | exact allocAt2 rfl) (by simp <;> omega) (HROW.out _ (by first | exact (((Below.refl _ _).alloc (Nat.le_refl _) _).drew) | exact ((((Below.refl _ _).alloc (Nat.le_refl _) _).alloc (by simp <;> omega) _).drew))) HONE.out hn5 (by simp <;> omega) ?_; intro g cap W' hown hgrow hb'; have hbw : Below w4.heap.size w4 W' := Below.trans (by first | exact (((Below.refl _ _).alloc (Nat.le_refl _) _).drew) | exact ((((Below.refl _ _).alloc (Nat.le_refl _) _).alloc (by simp <;> omega) _).drew)) hb'; have q2' := HQ2.out W' hbw)
          | (refine step_pushN rfl (.tmp 69) (.tmp 72) w4.heap.size _ _ (.slice mA nb mcA) n5 cs5 rfl (by rfl) (by rfl) (by first | exact hown | exact (hown.alloc _).drew) (by first | exact allocAt rfl | exact (hgrow.block _ (by simp <;> omega) (by simp <;> omega)).trans (allocAt rfl) | exact (hgrow.block _ (by simp <;> omega) (by simp <;> omega)).trans (allocAt (by simp <;> omega)) | exact (hgrow.block _ (by simp <;> omega) (by simp <;> omega)).trans (allocAt2 rfl)) rfl hn5 (by have := hbw.size; simp; try omega) ?_; intro g2 cap2 W2 hown2 hb2'; have hbw2 : Below w4.heap.size w4 W2 := Below.trans (by first | exact hbw | exact hbw.alloc hbw.size _ | exact (hbw.alloc hbw.size _).drew) hb2'))
        all_goals
          go_wp2_with fail
          go_meet
          refine ⟨some ⟨g2, 0, none⟩, n5 + 1, cap2, rfl, by rw [HNX1.out (by first | rfl | trivial), List.length_append, List.length_singleton, HN5.out], (HNR.out.lp (fun b h _ => .inr h)).next hbw2, ?_, HX4.out.trans (hbw2.mono HX4.out.size)⟩
          rw [HNX1.out (by first | rfl | trivial)]
          exact (HNR.out.snoc hbw2 HNB.out ((HO2.out.1.keepB (H4.out.trans (hbw2.mono H4.out.size)) (Nat.le_refl _)).bp (fun b h => .inl h) (Nat.le_trans H4.out.size hbw2.size)) hown2).lp (fun b h _ => .inr (Nat.le_trans HX4.out.size h))
      · go_wp2_with fail
        go_meet
        exact ⟨mL, nl, mcL, rfl, by rw [HNX2.out (by first | rfl | trivial)]; exact HNL.out.symm, HNR.out.lp (fun b h _ => .inr h), by rw [HNX2.out (by first | rfl | trivial)]; exact (HO2.out.2.keepB H4.out (Nat.le_refl _)).lp (fun b h => .inl h) H4.out.size, HX4.out⟩
    case rest =>
    obtain ⟨A6, n6, c6, hc1, hn6, hwas, hnxt, hx5⟩ := hcut
    subst hc1
    have HN6 := Lib.hid hn6
    have HWAS := Lib.hid hwas
    have HNXT := Lib.hid hnxt
    have HX5 := Lib.hid hx5
    have H5 := Lib.hid (H3.out.trans (hx5.mono H3.out.size))
    clear hn6 hwas hnxt hx5 HNR HX4 H4 HNX1 HNX2 q0 q2 q3
    have HZ5 : Hid (SZ w2.heap.size (List.range' w3.heap.size (wc.heap.size - w3.heap.size)) wc P L d lg) := Lib.hid (HSZ3.out.with HX5.out (fun x hx => .inr (by have := List.mem_range'_1.1 hx; have := HX5.out.size; omega)))
    have HSTOP := Lib.hid (stop_z HZ5.out H5.out.size ((st : Int) % 31) (by constructor <;> omega))
    rw [← HDSD.out] at HSTOP
    clear HZ5 HSZ3
    go_wp2_with fail
    refine HSTOP.out.mono ?_
    rintro _ w6 ⟨rfl, hz6, hs6, hb6⟩
    have H6 := Lib.hid (H5.out.trans hb6)
    have hrg6 := HBX1.out w6 (B2.out.trans (H6.out.mono B2.out.size))
    have HDOW := Lib.hid (HDO.out P L _ w6 hz6 H6.out)
    have HS6 := Lib.hid hs6
    have K6 := Lib.hid hb6
    clear hz6 hs6 hb6 HSTOP
    go_wp2_with ((with_reducible refine wpList_load_mid (op := ⟨some 81, _, _, _, _, _⟩) rfl 40 _ rfl w.heap.size 0 ?_ [.int .i64 ox, .int .i64 oi, .slice mA nb mcA, .slice mL nl mcL, .slice mG np mcG] _ hrg6 Tryd.underlying40 rfl (by kernel_rfl) ?_); exact rfl)
    refine HDOW.out.mono ?_
    rintro _ w7 ⟨rfl, hz7, hs7, hb7⟩
    have H7 := Lib.hid (H6.out.trans hb7)
    have K7 := Lib.hid (K6.out.trans hb7)
    have HS7 := Lib.hid (HS6.out.trans hs7)
    have HCR := Lib.hid (crash_z hz7 H7.out.size HST.out A4 c4 n4 cuts HN4.out (by omega) (HU2.out.keepB H7.out (Nat.le_refl _)))
    clear hz7 hs7 hb7 HDO HDOW HS6 hrg6 HST
    go_wp2_with fail
    refine HCR.out.mono ?_
    rintro _ w8 ⟨rfl, hz8, hs8, hb8⟩
    obtain ⟨l', hfd⟩ := HFD.out
    have H8 := Lib.hid (H7.out.trans hb8)
    have K8 := Lib.hid (K7.out.trans hb8)
    have HS8 := Lib.hid (HS7.out.trans hs8)
    have HIV := Lib.hid hfd.inv
    have HOP := Lib.hid (open_z hz8 H8.out.size (HH2.out.next H8.out) rfl hfd.dn hfd.inv)
    have htold := hfd.told
    obtain ⟨e0, he0⟩ : ∃ e0, e0 = R.1 := ⟨_, rfl⟩
    rw [← he0] at htold ⊢
    have HTO := Lib.hid htold
    clear hz8 hs8 hb8 HCR HS7 HFD hfd htold he0
    go_wp2_with fail
    refine HOP.out.mono ?_
    rintro e w9 ⟨L9, rfl, hz9, hs9, hb9⟩
    have H9 := Lib.hid (H8.out.trans hb9)
    have K9 := Lib.hid (K8.out.trans hb9)
    have HS9 := Lib.hid (HS8.out.trans hs9)
    have HRE := Lib.hid (records_zo hz9 (HH2.out.next H9.out) HIV.out)
    clear hz9 hs9 hb9 HOP HS8
    go_wp2_with fail
    refine HRE.out.mono ?_
    rintro _ w10 ⟨A10, c10, m10, cs10, rfl, hlr10, hb10⟩
    have H10 := Lib.hid (H9.out.trans (hb10.mono H9.out.size))
    have hsame : ∀ b, (b < w2.heap.size ∨ w3.heap.size ≤ b) → b < wc.heap.size → w10.heap[b]? = wc.heap[b]? := fun b hb hlt => by
      rw [hb10.block b (Nat.lt_of_lt_of_le hlt K9.out.size)]
      rcases hb with hb | hb
      · exact K9.out.block b hb
      · exact HS9.out b (List.mem_range'_1.2 ⟨hb, by omega⟩)
    have hz10 : wc.heap.size ≤ w10.heap.size := Nat.le_trans K9.out.size hb10.size
    have HLW := Lib.hid (HWAS.out.keep hsame hz10).lc
    have HLN := Lib.hid (HNXT.out.keep hsame hz10).lc
    have HLR := Lib.hid hlr10.lc
    have HM10 := Lib.hid hlr10.len
    have hcap10 := hlr10.cap
    have HIW := Lib.hid (refLists_any A10 A5 c10 c5 m10 n5 _ _ w10 HM10.out.symm HN5.out HLR.out HLW.out (by omega))
    have HIN := Lib.hid (refLists_any A10 A6 c10 c6 m10 n6 _ _ w10 HM10.out.symm HN6.out HLR.out HLN.out (by omega))
    clear hsame hz10 hlr10 hb10 HRE HLW HS9 H6 H7 H8 K6 K7 K8
    rcases HTO.out with ⟨h0, hr⟩ | ⟨h0, h21, hr⟩ | ⟨h21, hr⟩
    · subst h0
      rw [hr, decide_eq_true rfl] at HIN
      clear hr HTO
      go_wp2_with fail
      refine HIN.out.mono ?_
      rintro _ w11 ⟨rfl, hb11⟩
      go_wp2_with fail
      go_ret
      exact ⟨rfl, B0.out.trans ((H10.out.trans (hb11.mono H10.out.size)).mono B0.out.size)⟩
    · have i0 : (e0 == 0) = false := by simpa using h0
      have i21 : (e0 == 21) = false := by simpa using h21
      rw [hr, decide_eq_true rfl] at HIW
      clear hr HTO
      go_wp2_with fail
      refine HIW.out.mono ?_
      rintro _ w11 ⟨rfl, hb11⟩
      go_wp2_with fail
      go_ret
      exact ⟨rfl, B0.out.trans ((H10.out.trans (hb11.mono H10.out.size)).mono B0.out.size)⟩
    · subst h21
      by_cases hw : Wl.rds l' = Wl.rds lg
      · rw [hw, decide_eq_true rfl] at HIW
        clear hr HTO hw
        go_wp2_with fail
        refine HIW.out.mono ?_
        rintro _ w11 ⟨rfl, hb11⟩
        go_wp2_with fail
        go_ret
        exact ⟨rfl, B0.out.trans ((H10.out.trans (hb11.mono H10.out.size)).mono B0.out.size)⟩
      · have hr2 := hr.resolve_left hw
        rw [decide_eq_false hw] at HIW
        have HN2 := Lib.hid (fun w' (hb' : Below w10.heap.size w10 w') => refLists_any A10 A6 c10 c6 m10 n6 _ _ w' HM10.out.symm HN6.out (HLR.out.next hb') (HLN.out.next hb') (by omega))
        rw [hr2, decide_eq_true rfl] at HN2
        clear hr HTO hw hr2 HIN
        go_wp2_with fail
        refine HIW.out.mono ?_
        rintro _ w11 ⟨rfl, hb11⟩
        go_wp2_with fail
        refine (HN2.out w11 hb11).mono ?_
        rintro _ w12 ⟨rfl, hb12⟩
        go_wp2_with fail
        go_ret
        exact ⟨rfl, B0.out.trans (((H10.out.trans (hb11.mono H10.out.size)).trans (hb12.mono (Nat.le_trans H10.out.size hb11.size))).mono B0.out.size)⟩
end Go.Proofs.YtkmljbbnpjlehaaDoor
namespace Go.Proofs.YtkmljbbnpjlehaaDoor
set_option maxRecDepth 8000
open Go.RowKit

theorem u8_nat {x : Int} (hx : (Lit.int .u8 x).wf = true) : ∃ b : Nat, x = (b : Int) ∧ b ≤ 255 := by
  have e1 : IntKind.u8.min = 0 := by decide
  have e2 : IntKind.u8.max = 255 := by decide
  simp [Lit.wf] at hx
  exact ⟨x.toNat, by omega, by omega⟩
theorem walCrashes_at (x : Int) (hx : (Lit.int .u8 x).wf = true) (A : Option Addr) (cap : Nat) (l : List Wl.O) (o : Wl.O) (m : Wo) (y : Int) (hy : (Lit.int .u8 y).wf = true) (A4 : Option Addr) (c4 : Nat) (cuts : List UInt8) (w : World) (hH : Hs w)
    (hl : WosIn w w.heap.size A l) (hll : l.length ≤ 1048576) (ho : WoIn w w.heap.size o m) (hu : BCells w w.heap.size A4 cuts) (hc4 : cuts.length ≤ c4) (hm4 : c4 ≤ 9223372036854775807) :
    Calls Tryd.prog 5 #[.int .u8 x, .slice A l.length cap, .agg #[.int .i64 o.x, .int .i64 o.i, .slice m.A o.b.length m.cA, .slice m.L o.l.length m.cL, .slice m.G o.p.length m.cG], .int .u8 y, .slice A4 cuts.length c4] w fun e w' => e = .returned (.bool true) ∧ Below w.heap.size w w' := by
  obtain ⟨b, rfl, hb⟩ := u8_nat hx
  obtain ⟨s, rfl, hs⟩ := u8_nat hy
  have hz : 0 < w.heap.size := World.block_lt_of_cell? w _ (hH.cell (k := 0) (by omega))
  exact walCrashes_any b s A A4 cap c4 _ _ l o.x o.i o.b o.l o.p m.A m.L m.G m.cA m.cL m.cG cuts w hH hz hb hs rfl hl hll ho rfl hu hc4 hm4
end Go.Proofs.YtkmljbbnpjlehaaDoor
