/- The call TreePlays answers true, for any room, any ops and any name. Condition: the tables that the calls read hold what their texts lay there. -/
import Derived.Test.YtfeaonbeklmfgaaGreatDoorXtF
import Derived.Deep.CutBlock
import Derived.Deep.CutRange
import Derived.Deep.RegionHeld3
namespace Go.Proofs.YtfeaonbeklmfgaaGreatDoor
set_option maxRecDepth 8000
open Go.RowKit

theorem path_len (l : List Rk.R) (n : List UInt8) : (Tr.path l n).length ≤ l.length := by
  have key : ∀ (f : Nat) (n : List UInt8), (Tr.pth l f n).length ≤ f := by
    intro f
    induction f with
    | zero => intro n; exact Nat.le_refl _
    | succ f ih =>
      intro n
      unfold Tr.pth
      split
      · have := ih l[Tr.pl l n].parent
        rw [List.length_cons]
        omega
      · exact Nat.zero_le _
  exact key _ _
set_option maxHeartbeats 25600000 in
theorem treePlays_any (room : Int) (A0 : Option Addr) (c0 : Nat) (os : List Tr.O) (nm : List UInt8) (w : World) (hE : EnvT w) (h0 : OIn w w.heap.size A0 os) (m0 : os.length ≤ 9223372036854775807) :
    Calls Tryz.prog 3 #[.int .i64 room, .slice A0 os.length c0, .string (S nm)] w fun e w' => e = .returned (.bool true) ∧ Below w.heap.size w w' := by
  have HAW := Lib.hid (awake14_any w hE)
  have HF0 := Lib.hid (fun (w' : World) (hb : Below w.heap.size w w') => fewT_any w' A0 c0 os (h0.next hb) m0)
  have HE := Lib.hid hE
  have HO := Lib.hid h0
  have HMF := Lib.hid (fun (hf : Tr.few os = true) (k : Nat) (hk : k < os.length) => (Tr.few_at hf k hk))
  obtain ⟨q0, hq0⟩ : ∃ q, q = Tr.few os := ⟨_, rfl⟩
  rw [← hq0] at HF0 HMF
  clear hE h0 m0 hq0
  go_enter Tryz.func3, Tryz.ntmps3
  go_wp2_with fail
  refine HAW.out.mono ?_
  rintro e w1 ⟨rfl, hb1⟩
  have HB1 := Lib.hid hb1
  clear hb1 HAW
  go_wp2_with fail
  refine (HF0.out w1 HB1.out).mono ?_
  rintro e w2 ⟨rfl, hb2⟩
  have HB2 := Lib.hid (HB1.out.trans (hb2.mono HB1.out.size))
  clear hb2 HF0 HB1
  cases q0 with
  | false =>
    go_wp2_with fail
    go_ret
    exact ⟨rfl, HB2.out⟩
  | true =>
  by_cases hlen : nm.length ≤ 60
  case neg =>
    have e1 : (60 : Int) < ((S nm).size : Int) := by rw [S_size]; omega
    go_wp2_with fail
    go_ret
    exact ⟨rfl, HB2.out⟩
  case pos =>
  have e1 : ¬ (60 : Int) < ((S nm).size : Int) := by rw [S_size]; omega
  clear hlen
  have HNT := Lib.hid (new_anyT room)
  have HNX := Lib.hid (new_anyX room)
  have hrl := roomT_le room
  have HG := Lib.hid (fun k => (Tr.Good.walk (os.take k) (Tr.Good.nil (roomT room))))
  obtain ⟨rm, hrm⟩ : ∃ rm, rm = roomT room := ⟨_, rfl⟩
  rw [← hrm] at HNT HNX HG hrl
  clear hrm
  go_wp2_with fail
  refine (HNT.out w2).mono ?_
  rintro e w3 ⟨T, rfl, hT3, hb3⟩
  have HT3 := Lib.hid (And.intro hT3 hb3)
  clear hT3 hb3 HNT
  go_wp2_with fail
  refine (HNX.out w3).mono ?_
  rintro e w4 ⟨X, rfl, hX4, hb4⟩
  have HB4 := Lib.hid (HB2.out.trans ((HT3.out.2.trans (hb4.mono HT3.out.2.size)).mono HB2.out.size))
  have HPX4 : Hid (PX w w4 T X rm [] []) := Lib.hid ⟨_, _, fun x h => ⟨Nat.le_trans HB2.out.size h.1, Nat.lt_of_lt_of_le h.2 hb4.size⟩, fun x h => ⟨Nat.le_trans (Nat.le_trans HB2.out.size HT3.out.2.size) h.1, h.2⟩, fun x h1 h2 => by omega, HT3.out.1.keep hb4, hX4⟩
  clear hX4 hb4 HNX HT3
  have HRL := Lib.hid hrl
  clear hrl
  go_wp2_with fail
  go_loopw [11] (fun iv wr => ∃ k : Nat, k ≤ os.length ∧ iv = .int .i64 k ∧ PX w wr T X rm (Tr.walk rm [] (os.take k)) (Tr.walk rm [] (os.take k)) ∧ Below w.heap.size w wr) (fun iv _ => os.length - (intOf iv).toNat)
  case atStart => exact ⟨0, Nat.zero_le _, rfl, HPX4.out, HB4.out⟩
  case round =>
    obtain ⟨k, hk, rfl, hP, hb⟩ := hrel
    by_cases hlt : k < os.length
    · obtain ⟨gb, go, rfl, hgl, hcc⟩ := HO.out (by omega)
      have hx := hcc k hlt
      have h0 := (hb.cell (p := ⟨gb, go + k * 11, none⟩) hgl).trans hx.1
      have hat := hx.2.keep hb hgl
      have hkI : (k : Int) < (os.length : Int) := by omega
      have hk0 : (0 : Int) ≤ (k : Int) := by omega
      have hln : (Tr.walk rm [] (os.take k)).length ≤ 1000000 := by have := (HG.out k).le; have := HRL.out; omega
      have HTK := Lib.hid (Tr.walk_take rm [] os k hlt)
      have HFW := Lib.hid (HMF.out (by trivial) k hlt)
      have HLT := Lib.hid hlt
      have HBR := Lib.hid hb
      have HGK := Lib.hid (HG.out k)
      have HGK1 := Lib.hid (HG.out (k + 1))
      have HLN := Lib.hid hln
      rw [HTK.out] at HGK1
      generalize Tr.walk rm [] (os.take k) = L at hP hln HTK HGK HGK1 HLN
      generalize os[k] = o at h0 hat HTK HFW HGK1
      obtain ⟨d0, d1, d2, d3, d4, d5, d6, d7, d8, d9⟩ := hat
      obtain ⟨G1, G2, a1, a2, a3, hT, hX⟩ := hP
      obtain ⟨wb, hwb⟩ : ∃ wb, wb = wr.alloc (.cells #[.int .i64 o.d, .int .i64 o.r.kind, .string (S o.r.name), .string (S o.r.parent), .string (S o.r.user), .string (S o.r.service), .string (S o.r.url), .int .i64 o.r.made, .int .i64 o.r.used, .int .i64 o.r.uses, .bool o.r.fresh] 32) := ⟨_, rfl⟩
      have hbb : Below wr.heap.size wr wb := by rw [hwb]; exact (Below.refl _ _).alloc (Nat.le_refl _) _
      have hblk : wb.heap[wr.heap.size]? = some (.cells #[.int .i64 o.d, .int .i64 o.r.kind, .string (S o.r.name), .string (S o.r.parent), .string (S o.r.user), .string (S o.r.service), .string (S o.r.url), .int .i64 o.r.made, .int .i64 o.r.used, .int .i64 o.r.uses, .bool o.r.fresh] 32 (0, 0)) := by rw [hwb]; exact heap_alloc_new wr _
      have hwr := hb.size
      have hltb : wr.heap.size < wb.heap.size := by rw [hwb]; simp
      have H11 := Lib.hid (fun (w' : World) (ho : OutT (fun x => x < wr.heap.size) wb w') => At11.of (o := o) ((ho.block _ hltb (by omega)).trans hblk) rfl)
      have HDO := Lib.hid (do_anyT o HGK.out (hT.keep hbb) hln HFW.out.1 (HE.out.next (hb.trans (hbb.mono hwr))))
      have b1 : ∀ x, G1 x → w.heap.size ≤ x ∧ x < wb.heap.size := fun x h => ⟨(a1 x h).1, by have := (a1 x h).2; omega⟩
      have b2 : ∀ x, G2 x → w.heap.size ≤ x ∧ x < wb.heap.size := fun x h => ⟨(a2 x h).1, by have := (a2 x h).2; omega⟩
      have HFI := Lib.hid (fun (w2 : World) (hr : TreeAt (OrT G1 wb.heap.size w2.heap.size) w2 T rm (Tr.doL rm L o) ∧ OutT G1 wb w2) => PX.first b1 b2 a3 (hX.keep hbb) (by omega : w.heap.size ≤ wb.heap.size) hr)
      have HG1 := Lib.hid a1
      have HG2 := Lib.hid a2
      have HBB := Lib.hid (And.intro hbb hltb)
      obtain ⟨e0, e1', e2, e3, e4, e5, e6, e7, e8, e9, e10⟩ := H11.out wb (OutT.refl _ _)
      unfold oV at HDO
      clear hcc hx hgl hT hX a1 a2 a3 b1 b2 hbb hblk hltb hln hwr hb hlt
      go_upto_region 13 with fail
      rw [← hwb]
      clear hwb
      go_wp2_with fail
      refine HDO.out.mono ?_
      rintro e w5 ⟨xv, rfl, hxv, hr⟩
      obtain ⟨p1, p2, p3, hX5⟩ := HFI.out w5 hr
      have ho5 : OutT (fun x => x < wr.heap.size) wb w5 := hr.2.mono (fun x _ h => (HG1.out x h).2)
      have HB5 := Lib.hid (HBR.out.trans ((HBB.out.1.mono HBR.out.size).trans (hr.2.below (base := w.heap.size) (fun x _ h => (HG1.out x h).1) (Nat.le_trans HBR.out.size HBB.out.1.size))))
      have hs5 := ho5.size
      have HXV := Lib.hid hxv
      have HO5 := Lib.hid ho5
      have HT5 := Lib.hid (And.intro p1 (And.intro p2 (And.intro p3 (And.intro hr.1 hX5))))
      clear e0 e1' e2 e3 e4 e5 e6 e7 e8 e9 e10 d0 d1 d2 d3 d4 d5 d6 d7 d8 d9 h0 p1 p2 p3 hX5 hr hxv ho5 HDO HFI
      obtain ⟨e0, e1', e2, e3, e4, e5, e6, e7, e8, e9, e10⟩ := H11.out w5 HO5.out
      have HADD := Lib.hid (add_anyX o.r HT5.out.2.2.2.2 HLN.out (by have := HFW.out.1.nm; omega) (by have := HFW.out.1.pa; omega))
      have HPUT := Lib.hid (put_anyX o.r HT5.out.2.2.2.2 HLN.out (by have := HFW.out.1.nm; omega) (by have := HFW.out.1.pa; omega))
      have HDRP := Lib.hid (drop_anyX o.r.name HGK.out HT5.out.2.2.2.2 HLN.out)
      unfold recV at HADD HPUT
      have HSEC := Lib.hid (fun (l' : List Rk.R) (w6 : World) (hr : XAt (OrT G2 w5.heap.size w6.heap.size) w6 X rm l' ∧ OutT G2 w5 w6) => show PX w w6 T X rm (Tr.doL rm L o) l' ∧ OutT (fun x => x < wr.heap.size) w5 w6 ∧ Below w.heap.size w5 w6 from ⟨PX.second HT5.out.1 HT5.out.2.1 HT5.out.2.2.1 HT5.out.2.2.2.1 HB5.out.size hr, hr.2.mono (fun x _ h => (HG2.out x h).2), hr.2.below (base := w.heap.size) (fun x _ h => (HG2.out x h).1) HB5.out.size⟩)
      clear hs5
      go_upto_block 2 with fail
      go_cut [15, 16] from 41 to 164 (fun vf vy wx => vf = .int .i64 (Tr.doE rm L o) ∧ (∃ bs, SRow bs wx vy (Tr.gone L o)) ∧ PX w wx T X rm (Tr.doL rm L o) (Tr.doL rm L o) ∧ OutT (fun x => x < wr.heap.size) w5 wx ∧ Below w.heap.size w5 wx)
      case first =>
        by_cases h1 : o.d = 1
        · have k1 : (o.d == 1) = true := beq_iff_eq.2 h1
          have HL : Hid (Tr.doL rm L o = Tr.add rm L o.r ∧ Tr.doE rm L o = Tr.addE rm L o.r ∧ Tr.gone L o = []) := Lib.hid ⟨by unfold Tr.doL; rw [if_pos h1], by unfold Tr.doE; rw [if_pos h1], by unfold Tr.gone; rw [if_neg (by omega)]⟩
          clear h1
          go_wp2_with fail
          refine HADD.out.mono ?_
          rintro e w6 ⟨rfl, hr⟩
          have HR := Lib.hid (HSEC.out _ w6 hr)
          clear hr e0 e1' e2 e3 e4 e5 e6 e7 e8 e9 e10
          go_wp2_with fail
          go_meet
          refine ⟨by rw [HL.out.2.1], ⟨0, by rw [HL.out.2.2]; exact World.ownsRow_nil _ _ _ _⟩, ?_, HR.out.2⟩
          have := HR.out.1
          rw [← HL.out.1] at this
          exact this
        have k1 : (o.d == 1) = false := beq_eq_false_iff_ne.2 h1
        by_cases h2 : o.d = 2
        · have k2 : (o.d == 2) = true := beq_iff_eq.2 h2
          have HL : Hid (Tr.doL rm L o = Tr.put L o.r ∧ Tr.doE rm L o = Tr.putE L o.r ∧ Tr.gone L o = []) := Lib.hid ⟨by unfold Tr.doL; rw [if_neg h1, if_pos h2], by unfold Tr.doE; rw [if_neg h1, if_pos h2], by unfold Tr.gone; rw [if_neg (by omega)]⟩
          clear h1 h2
          go_wp2_with fail
          refine HPUT.out.mono ?_
          rintro e w6 ⟨rfl, hr⟩
          have HR := Lib.hid (HSEC.out _ w6 hr)
          clear hr e0 e1' e2 e3 e4 e5 e6 e7 e8 e9 e10
          go_wp2_with fail
          go_meet
          refine ⟨by rw [HL.out.2.1], ⟨0, by rw [HL.out.2.2]; exact World.ownsRow_nil _ _ _ _⟩, ?_, HR.out.2⟩
          have := HR.out.1
          rw [← HL.out.1] at this
          exact this
        have k2 : (o.d == 2) = false := beq_eq_false_iff_ne.2 h2
        by_cases h3 : o.d = 3
        · have k3 : (o.d == 3) = true := beq_iff_eq.2 h3
          have HL : Hid (Tr.doL rm L o = Tr.drop L o.r.name ∧ Tr.doE rm L o = 0 ∧ Tr.gone L o = Tr.below L o.r.name) := Lib.hid ⟨by unfold Tr.doL; rw [if_neg h1, if_neg h2, if_pos h3], by unfold Tr.doE; rw [if_neg h1, if_neg h2], by unfold Tr.gone; rw [if_pos h3]⟩
          clear h1 h2 h3
          go_wp2_with fail
          refine HDRP.out.mono ?_
          rintro e w6 ⟨v6, rfl, hv6, hr⟩
          have HR := Lib.hid (HSEC.out _ w6 hr)
          have HV := Lib.hid hv6
          clear hr hv6 e0 e1' e2 e3 e4 e5 e6 e7 e8 e9 e10
          go_wp2_with fail
          go_meet
          refine ⟨by rw [HL.out.2.1]; rfl, ⟨_, by rw [HL.out.2.2]; exact HV.out⟩, ?_, HR.out.2⟩
          have := HR.out.1
          rw [← HL.out.1] at this
          exact this
        · have k3 : (o.d == 3) = false := beq_eq_false_iff_ne.2 h3
          have HL : Hid (Tr.doL rm L o = L ∧ Tr.doE rm L o = 0 ∧ Tr.gone L o = []) := Lib.hid ⟨by unfold Tr.doL; rw [if_neg h1, if_neg h2, if_neg h3], by unfold Tr.doE; rw [if_neg h1, if_neg h2], by unfold Tr.gone; rw [if_neg h3]⟩
          clear h1 h2 h3
          have HR := Lib.hid (show PX w w5 T X rm (Tr.doL rm L o) L from ⟨_, _, HT5.out.1, HT5.out.2.1, HT5.out.2.2.1, HT5.out.2.2.2.1, HT5.out.2.2.2.2⟩)
          go_wp2_with fail
          go_meet
          refine ⟨by rw [HL.out.2.1]; rfl, ⟨0, by rw [HL.out.2.2]; exact World.ownsRow_nil _ _ _ _⟩, ?_, OutT.refl _ _, Below.refl _ _⟩
          have := HR.out
          rw [HL.out.1] at this ⊢
          exact this
      case rest =>
      obtain ⟨rfl, ⟨bs, hy⟩, hP6, ho6, hb6⟩ := hcut
      have HP6 := Lib.hid hP6
      have HY6 := Lib.hid hy
      have HB6 := Lib.hid (HB5.out.trans hb6)
      have HXV6 : Hid (SRow wb.heap.size wc xv (Tr.gone L o)) := Lib.hid (own_kept HXV.out (fun q hq => by
        have hq2 := World.ownsRow.lt HXV.out q hq
        exact ho6.block q hq2.2 (fun h => by have := HBB.out.1.size; omega)))
      have HO6 := Lib.hid (HO5.out.trans ho6 (fun _ _ h => h) (fun _ _ h => h))
      obtain ⟨H1, H2, hT6, hX6⟩ := hP6.trees
      have hlen6 : (Tr.doL rm L o).length ≤ 1000000 := by have := HGK1.out.le; have := HRL.out; omega
      have HLN6 := Lib.hid hlen6
      have HT6 := Lib.hid (And.intro hT6 hX6)
      have HGET := Lib.hid (get_any nm hT6 (by omega))
      have HGETX := Lib.hid (fun (w' : World) (hb : Below wc.heap.size wc w') => get_anyX nm (hX6.keep hb) (by omega))
      clear hy hP6 ho6 hb6 hT6 hX6 hlen6 e0 e1' e2 e3 e4 e5 e6 e7 e8 e9 e10 HADD HPUT HDRP HSEC HT5 HXV HO5 HB5
      generalize getR (Tr.doL rm L o) nm = g at HGET HGETX
      generalize Tr.has (Tr.doL rm L o) nm = qh at HGET HGETX
      unfold recV at HGET HGETX
      go_wp2_with fail
      refine HGET.out.mono ?_
      rintro e w7 ⟨rfl, hb7⟩
      have hz7 := hb7.size
      have HRA := recAt_alloc w7 g
      obtain ⟨w8, hw8⟩ : ∃ w8, w8 = w7.alloc (.cells (recCs g) 30) := ⟨_, rfl⟩
      have hb78 : Below w7.heap.size w7 w8 := by rw [hw8]; exact (Below.refl _ _).alloc (Nat.le_refl _) _
      have hs8 : w8.heap.size = w7.heap.size + 1 := by rw [hw8]; simp
      rw [← hw8, ← hs8] at HRA
      have hb8 := hb7.trans (hb78.mono hz7)
      have HRA' := Lib.hid HRA
      have HB8 := Lib.hid hb8
      unfold recCs at hw8
      clear hb7 hb78 hb8 HRA HGET
      go_upto_region 24 with fail
      rw [← hw8]
      clear hw8
      go_wp2_with fail
      refine (HGETX.out w8 HB8.out).mono ?_
      rintro e w9 ⟨rfl, hb9⟩
      have hz9 := hb9.size
      have HRB := recAt_alloc w9 g
      obtain ⟨w10, hw10⟩ : ∃ w10, w10 = w9.alloc (.cells (recCs g) 30) := ⟨_, rfl⟩
      have hb910 : Below w9.heap.size w9 w10 := by rw [hw10]; exact (Below.refl _ _).alloc (Nat.le_refl _) _
      have hs10 : w10.heap.size = w9.heap.size + 1 := by rw [hw10]; simp
      rw [← hw10, ← hs10] at HRB
      have hb810 := hb9.trans (hb910.mono hz9)
      have HR17 := Lib.hid (fun (w' : World) (hb : Below w10.heap.size w10 w') => HRA'.out w' (hb810.trans (hb.mono hb810.size)))
      have HR19 := Lib.hid HRB
      have HB10 := Lib.hid (HB8.out.trans (hb810.mono HB8.out.size))
      unfold recCs at hw10
      clear hb9 hb910 hb810 HRB HGETX HRA'
      go_upto_region 25 with fail
      rw [← hw10]
      clear hw10 hz7 hs8 hz9 hs10
      have HXV10 := Lib.hid (own_below HXV6.out HB10.out)
      have HY10 := Lib.hid (own_below HY6.out HB10.out)
      have hg1000 : (Tr.gone L o).length ≤ 1099511627776 := by
        unfold Tr.gone
        split
        · have := below_len o.r.name HGK.out; have := HLN.out; omega
        · simp
      have HTX := Lib.hid (fun (w' : World) (hb : Below w10.heap.size w10 w') => texts_rows (own_below HXV10.out hb) (own_below HY10.out hb) hg1000)
      have HALL := Lib.hid (fun (w' : World) (hb : Below w10.heap.size w10 w') => all_any (HT6.out.1.keep (HB10.out.trans (hb.mono HB10.out.size))) (by have := HLN6.out; omega))
      obtain ⟨xr, x1, x2, x3, x4⟩ := HT6.out.2.keep HB10.out
      obtain ⟨A2, c2, rfl, -⟩ := x2.form
      have HXC := Lib.hid (fun (w' : World) (hb : Below w10.heap.size w10 w') => cell_of_row w' X 1 _ _ _ ((hb.block X (Array.getElem?_eq_some_iff.1 x1).1).trans x1))
      have HXR := Lib.hid x2
      simp only [List.getElem?_toArray, List.getElem?_cons_succ, List.getElem?_cons_zero] at HXC
      have HRECS := Lib.hid (fun (w' : World) (b : Nat) (v : Value) (hb : Below w10.heap.size w10 w') (hr : RRow b w' v (Tr.doL rm L o)) => records_same hr (own_below HXR.out hb) (by have := HLN6.out; omega))
      generalize (Tr.doL rm L o).length = n6 at HXC HXR HRECS
      clear x1 x2 x3 x4 hg1000
      have HC25 : Hid (∀ w', Below w10.heap.size w10 w' → w'.cell? ⟨X, 1, none⟩ = some (.slice A2 n6 c2) ∧ w'.cell? ⟨w7.heap.size, 0, none⟩ = some (.int .i64 g.kind) ∧ w'.cell? ⟨w7.heap.size, 1, none⟩ = some (.string (S g.name)) ∧ w'.cell? ⟨w7.heap.size, 2, none⟩ = some (.string (S g.parent)) ∧ w'.cell? ⟨w7.heap.size, 3, none⟩ = some (.string (S g.user)) ∧ w'.cell? ⟨w7.heap.size, 4, none⟩ = some (.string (S g.service)) ∧ w'.cell? ⟨w7.heap.size, 5, none⟩ = some (.string (S g.url)) ∧ w'.cell? ⟨w7.heap.size, 6, none⟩ = some (.int .i64 g.made) ∧ w'.cell? ⟨w7.heap.size, 7, none⟩ = some (.int .i64 g.used) ∧ w'.cell? ⟨w7.heap.size, 8, none⟩ = some (.int .i64 g.uses) ∧ w'.cell? ⟨w7.heap.size, 9, none⟩ = some (.bool g.fresh) ∧ w'.cell? ⟨w9.heap.size, 0, none⟩ = some (.int .i64 g.kind) ∧ w'.cell? ⟨w9.heap.size, 1, none⟩ = some (.string (S g.name)) ∧ w'.cell? ⟨w9.heap.size, 2, none⟩ = some (.string (S g.parent)) ∧ w'.cell? ⟨w9.heap.size, 3, none⟩ = some (.string (S g.user)) ∧ w'.cell? ⟨w9.heap.size, 4, none⟩ = some (.string (S g.service)) ∧ w'.cell? ⟨w9.heap.size, 5, none⟩ = some (.string (S g.url)) ∧ w'.cell? ⟨w9.heap.size, 6, none⟩ = some (.int .i64 g.made) ∧ w'.cell? ⟨w9.heap.size, 7, none⟩ = some (.int .i64 g.used) ∧ w'.cell? ⟨w9.heap.size, 8, none⟩ = some (.int .i64 g.uses) ∧ w'.cell? ⟨w9.heap.size, 9, none⟩ = some (.bool g.fresh)) := Lib.hid fun w' hb => by
        obtain ⟨g0, g1, g2, g3, g4, g5, g6, g7, g8, g9⟩ := HR17.out w' hb
        obtain ⟨k0, k1, k2, k3, k4, k5, k6, k7, k8, k9⟩ := HR19.out w' hb
        exact ⟨HXC.out w' hb, g0, g1, g2, g3, g4, g5, g6, g7, g8, g9, k0, k1, k2, k3, k4, k5, k6, k7, k8, k9⟩
      clear HR17 HR19 HXC
      go_cut [118] from 41 to 164 (fun t wx => t = .bool false ∧ Below w10.heap.size w10 wx)
      case first =>
        go_region_held3 (fun wx => wx.cell? ⟨X, 1, none⟩ = some (.slice A2 n6 c2) ∧ wx.cell? ⟨w7.heap.size, 0, none⟩ = some (.int .i64 g.kind) ∧ wx.cell? ⟨w7.heap.size, 1, none⟩ = some (.string (S g.name)) ∧ wx.cell? ⟨w7.heap.size, 2, none⟩ = some (.string (S g.parent)) ∧ wx.cell? ⟨w7.heap.size, 3, none⟩ = some (.string (S g.user)) ∧ wx.cell? ⟨w7.heap.size, 4, none⟩ = some (.string (S g.service)) ∧ wx.cell? ⟨w7.heap.size, 5, none⟩ = some (.string (S g.url)) ∧ wx.cell? ⟨w7.heap.size, 6, none⟩ = some (.int .i64 g.made) ∧ wx.cell? ⟨w7.heap.size, 7, none⟩ = some (.int .i64 g.used) ∧ wx.cell? ⟨w7.heap.size, 8, none⟩ = some (.int .i64 g.uses) ∧ wx.cell? ⟨w7.heap.size, 9, none⟩ = some (.bool g.fresh) ∧ wx.cell? ⟨w9.heap.size, 0, none⟩ = some (.int .i64 g.kind) ∧ wx.cell? ⟨w9.heap.size, 1, none⟩ = some (.string (S g.name)) ∧ wx.cell? ⟨w9.heap.size, 2, none⟩ = some (.string (S g.parent)) ∧ wx.cell? ⟨w9.heap.size, 3, none⟩ = some (.string (S g.user)) ∧ wx.cell? ⟨w9.heap.size, 4, none⟩ = some (.string (S g.service)) ∧ wx.cell? ⟨w9.heap.size, 5, none⟩ = some (.string (S g.url)) ∧ wx.cell? ⟨w9.heap.size, 6, none⟩ = some (.int .i64 g.made) ∧ wx.cell? ⟨w9.heap.size, 7, none⟩ = some (.int .i64 g.used) ∧ wx.cell? ⟨w9.heap.size, 8, none⟩ = some (.int .i64 g.uses) ∧ wx.cell? ⟨w9.heap.size, 9, none⟩ = some (.bool g.fresh))
          (exact HC25.out _ (by (repeat (first | exact Below.refl _ _ | assumption | refine Below.drew ?_ | refine Below.alloc ?_ (by first | omega | (simp; omega) | simp) _))))
          (first
            | (go_at_call 16; refine (HTX.out _ (by (repeat (first | exact Below.refl _ _ | assumption | refine Below.drew ?_ | refine Below.alloc ?_ (by first | omega | (simp; omega) | simp) _)))).mono ?_; rintro e wt ⟨rfl, hbt'⟩; have hbt : Below w10.heap.size w10 wt := Below.trans (by (repeat (first | exact Below.refl _ _ | assumption | refine Below.drew ?_ | refine Below.alloc ?_ (by first | omega | (simp; omega) | simp) _))) (hbt'.mono (by first | omega | (simp; omega) | simp)); clear hbt')
            | (go_at_call 18; refine (HALL.out _ (by (repeat (first | exact Below.refl _ _ | assumption | refine Below.drew ?_ | refine Below.alloc ?_ (by first | omega | (simp; omega) | simp) _)))).mono ?_; rintro e wa ⟨va, rfl, hra, hba'⟩; have hba : Below w10.heap.size w10 wa := Below.trans (by (repeat (first | exact Below.refl _ _ | assumption | refine Below.drew ?_ | refine Below.alloc ?_ (by first | omega | (simp; omega) | simp) _))) (hba'.mono (by have := hbt.size; first | omega | (simp; omega) | simp)); clear hba')
            | (go_at_call 17; refine (HRECS.out _ _ _ (by (repeat (first | exact Below.refl _ _ | assumption | refine Below.drew ?_ | refine Below.alloc ?_ (by first | omega | (simp; omega) | simp) _))) (by first | exact hra | exact hra.drew)).mono ?_; rintro e wq ⟨rfl, hbq'⟩; have hbq : Below w10.heap.size w10 wq := Below.trans (by (repeat (first | exact Below.refl _ _ | assumption | refine Below.drew ?_ | refine Below.alloc ?_ (by first | omega | (simp; omega) | simp) _))) (hbq'.mono (by have := hba.size; first | omega | (simp; omega) | simp)); clear hbq'))
        all_goals
          go_wp2_with fail
          go_meet
          exact ⟨rfl, by (repeat (first | exact Below.refl _ _ | assumption | refine Below.drew ?_ | refine Below.alloc ?_ (by first | omega | (simp; omega) | simp) _))⟩
      case rest =>
      obtain ⟨rfl, hb11⟩ := hcut
      obtain ⟨w11, rfl⟩ : ∃ q, q = wc := ⟨_, rfl⟩
      have HB11 := Lib.hid (HB10.out.trans (hb11.mono HB10.out.size))
      obtain ⟨e0, e1', e2, e3, e4, e5, e6, e7, e8, e9, e10⟩ := H11.out w11 (HO6.out.trans (OutT.of (F := fun x => x < wr.heap.size) HB11.out) (fun _ _ h => h) (fun _ _ h => h))
      have HRK := Lib.hid HB11.out.size
      obtain ⟨wn, hwn⟩ : ∃ wn, wn = w11.alloc (.cells #[.string (S nm), .string (S o.r.name), .string (S o.r.parent)] 9) := ⟨_, rfl⟩
      have hbn : Below w11.heap.size w11 wn := by rw [hwn]; exact (Below.refl _ _).alloc (Nat.le_refl _) _
      have hblk : wn.heap[w11.heap.size]? = some (.cells #[.string (S nm), .string (S o.r.name), .string (S o.r.parent)] 9 (0, 0)) := by rw [hwn]; exact heap_alloc_new w11 _
      have hltn : w11.heap.size < wn.heap.size := by rw [hwn]; simp
      have HNM := Lib.hid (fun (w' : World) (hb : Below wn.heap.size wn w') (j : Nat) (hj : j < 3) => show ∃ n, w'.cell? ⟨w11.heap.size, j, none⟩ = some (.string (S n)) from by
        have h := (hb.block _ hltn).trans hblk
        have h0 := cell_of_row w' w11.heap.size j _ _ _ h
        rcases j with _ | _ | _ | j
        · exact ⟨_, h0⟩
        · exact ⟨_, h0⟩
        · exact ⟨_, h0⟩
        · omega)
      have HBN := Lib.hid (HB11.out.trans (hbn.mono HB11.out.size))
      have HFIN := Lib.hid (fun (w' : World) (hb : Below wn.heap.size wn w') => show PX w w' T X rm (Tr.doL rm L o) (Tr.doL rm L o) ∧ Below w.heap.size w w' from ⟨HP6.out.keep (HBN.out.trans (hb.mono HBN.out.size)), HB6.out.trans ((HBN.out.trans (hb.mono HBN.out.size)).mono HB6.out.size)⟩)
      have HTT := Lib.hid (fun (w' : World) (hb : Below wn.heap.size wn w') => And.intro (HT6.out.1.keep (HBN.out.trans (hb.mono HBN.out.size))) (HT6.out.2.keep (HBN.out.trans (hb.mono HBN.out.size))))
      clear hb11 hbn hblk hltn
      go_upto_region 28 with fail
      rw [← hwn]
      clear hwn e0 e1' e2 e3 e4 e5 e6 e7 e8 e9 e10
      go_wp2_with fail
      go_loopw [22] (fun iv wy => ∃ j : Nat, j ≤ 3 ∧ iv = .int .i64 j ∧ Below wn.heap.size wn wy) (fun iv _ => 3 - (intOf iv).toNat)
      case atStart => exact ⟨0, by omega, rfl, Below.refl _ _⟩
      case round =>
        obtain ⟨j, hj, rfl, hby⟩ := hrel
        by_cases hj3 : j < 3
        · obtain ⟨n, hn⟩ := HNM.out _ hby j hj3
          have hkJ : (j : Int) < 3 := by omega
          have hj0 : (0 : Int) ≤ (j : Int) := by omega
          have HNC := Lib.hid (fun (w' : World) (hb : Below wn.heap.size wn w') => HNM.out w' hb j hj3)
          have HKA := Lib.hid (fun (w' : World) (hb : Below wn.heap.size wn w') => kids_any n (HTT.out w' hb).1 (by have := HLN6.out; omega))
          have HKB := Lib.hid (fun (w' : World) (hb : Below wn.heap.size wn w') => kids_anyX n HGK1.out (HTT.out w' hb).2 (by have := HLN6.out; omega))
          have HBA := Lib.hid (fun (w' : World) (hb : Below wn.heap.size wn w') => below_any n HGK1.out (HTT.out w' hb).1 HLN6.out)
          have HBX := Lib.hid (fun (w' : World) (hb : Below wn.heap.size wn w') => below_anyX n HGK1.out (HTT.out w' hb).2 HLN6.out)
          have HPA := Lib.hid (fun (w' : World) (hb : Below wn.heap.size wn w') => path_any n HGK1.out (HTT.out w' hb).1 (by have := HLN6.out; omega))
          have HPB := Lib.hid (fun (w' : World) (hb : Below wn.heap.size wn w') => path_anyX n HGK1.out (HTT.out w' hb).2 (by have := HLN6.out; omega))
          have HLK : Hid ((kidsT (Tr.doL rm L o) n).length ≤ 1099511627776) := Lib.hid (by
            unfold kidsT
            split
            · have := kids_len (Tr.doL rm L o) n; have := HLN6.out; omega
            · simp)
          have HLB : Hid ((Tr.below (Tr.doL rm L o) n).length ≤ 1099511627776) := Lib.hid (by have := below_len n HGK1.out; have := HLN6.out; omega)
          have HLP : Hid ((Tr.path (Tr.doL rm L o) n).length ≤ 1099511627776) := Lib.hid (by have := path_len (Tr.doL rm L o) n; have := HLN6.out; omega)
          have HJ3 := Lib.hid hj3
          clear hj3
          go_upto_region 32 with fail
          go_wp2_with fail
          refine (HKA.out _ hby).mono ?_
          rintro e wka ⟨vka, rfl, hrka, hqka⟩
          have hbka := hby.trans (hqka.mono hby.size)
          clear HKA
          go_wp2_with fail
          refine (HKB.out _ hbka).mono ?_
          rintro e wkb ⟨vkb, rfl, hrkb, hqkb⟩
          have hbkb := hbka.trans (hqkb.mono hbka.size)
          clear HKB
          go_wp2_with fail
          refine (texts_rows (own_below hrka hqkb) hrkb HLK.out).mono ?_
          rintro e wkt ⟨rfl, hqkt⟩
          have hbkt := hbkb.trans (hqkt.mono hbkb.size)
          clear hrka hqka hrkb hqkb hqkt hbka hbkb HLK
          go_wp2_with fail
          refine (HBA.out _ hbkt).mono ?_
          rintro e wba ⟨vba, rfl, hrba, hqba⟩
          have hbba := hbkt.trans (hqba.mono hbkt.size)
          clear HBA
          go_wp2_with fail
          refine (HBX.out _ hbba).mono ?_
          rintro e wbb ⟨vbb, rfl, hrbb, hqbb⟩
          have hbbb := hbba.trans (hqbb.mono hbba.size)
          clear HBX
          go_wp2_with fail
          refine (texts_rows (own_below hrba hqbb) hrbb HLB.out).mono ?_
          rintro e wbt ⟨rfl, hqbt⟩
          have hbbt := hbbb.trans (hqbt.mono hbbb.size)
          clear hrba hqba hrbb hqbb hqbt hbba hbbb HLB
          go_wp2_with fail
          refine (HPA.out _ hbbt).mono ?_
          rintro e wpa ⟨vpa, rfl, hrpa, hqpa⟩
          have hbpa := hbbt.trans (hqpa.mono hbbt.size)
          clear HPA
          go_wp2_with fail
          refine (HPB.out _ hbpa).mono ?_
          rintro e wpb ⟨vpb, rfl, hrpb, hqpb⟩
          have hbpb := hbpa.trans (hqpb.mono hbpa.size)
          clear HPB
          go_wp2_with fail
          refine (texts_rows (own_below hrpa hqpb) hrpb HLP.out).mono ?_
          rintro e wpt ⟨rfl, hqpt⟩
          have hbpt := hbpb.trans (hqpt.mono hbpb.size)
          clear hrpa hqpa hrpb hqpb hqpt hbpa hbpb HLP
          have hj4 := HJ3.out
          go_wp2_with fail
          go_roundw
          case rel => exact ⟨j + 1, by omega, by go_num, hbpt⟩
          case measure => simp [intOf]; omega
        · have hj3 : j = 3 := by omega
          subst hj3
          have HF := Lib.hid (HFIN.out _ hby)
          clear hby
          have hk5 := HLT.out
          have hk6 := HFW.out.2
          go_wp2_with fail
          go_roundw
          case rel => exact ⟨k + 1, by omega, by go_num, by rw [HTK.out]; exact HF.out.1, HF.out.2⟩
          case measure => simp [intOf]; omega
    · have hkn : k = os.length := by omega
      subst hkn
      have HR := Lib.hid hb
      clear hP hb hlt
      go_wp2_with fail
      go_ret
      exact ⟨rfl, HR.out⟩
end Go.Proofs.YtfeaonbeklmfgaaGreatDoor
