/- The call TreeCopies answers true, for any room and any ops. Condition: the tables that the calls read hold what their texts lay there. -/
import Derived.Test.YtfeaonbeklmfgaaDoorTrK
namespace Go.Proofs.YtfeaonbeklmfgaaDoor
set_option maxRecDepth 8000
open Go.RowKit

theorem records_same {w : World} {base base' : Nat} {v v' : Value} {l : List Rk.R} (h : RRow base w v l) (h' : RRow base' w v' l) (hl : l.length ≤ 1048576) :
    Calls Tryd.prog 15 #[v, v'] w fun e w' => e = .returned (.bool true) ∧ Below w.heap.size w w' := by
  obtain ⟨A, c, rfl, h1⟩ := h.form
  obtain ⟨A', c', rfl, h2⟩ := h'.form
  exact (recordsT_any w A A' c c' l l h1 h2 hl).mono fun e w' ⟨he, hb⟩ => ⟨by rw [he, decide_eq_true rfl], hb⟩
set_option maxHeartbeats 6400000 in
theorem treeCopies_any (room : Int) (A0 A1 : Option Addr) (c0 c1 : Nat) (os ms : List Tr.O) (w : World) (hE : EnvT w) (h0 : OIn w w.heap.size A0 os) (h1 : OIn w w.heap.size A1 ms) (m0 : os.length ≤ 9223372036854775807) (m1 : ms.length ≤ 9223372036854775807) :
    Calls Tryd.prog 5 #[.int .i64 room, .slice A0 os.length c0, .slice A1 ms.length c1] w fun e w' => e = .returned (.bool true) ∧ Below w.heap.size w w' := by
  have HAW := Lib.hid (awake14_any w hE)
  have HF0 := Lib.hid (fun (w' : World) (hb : Below w.heap.size w w') => fewT_any w' A0 c0 os (h0.next hb) m0)
  have HF1 := Lib.hid (fun (w' : World) (hb : Below w.heap.size w w') => fewT_any w' A1 c1 ms (h1.next hb) m1)
  have HWK := Lib.hid (fun (hf : Tr.few os = true) (w' : World) (hb : Below w.heap.size w w') => walkedT_any room A0 c0 os (h0.next hb) hf (hE.next hb))
  have HE := Lib.hid hE
  have HM := Lib.hid h1
  have HMF := Lib.hid (fun (hf : Tr.few ms = true) (k : Nat) (hk : k < ms.length) => (Tr.few_at hf k hk))
  obtain ⟨q0, hq0⟩ : ∃ q, q = Tr.few os := ⟨_, rfl⟩
  obtain ⟨q1, hq1⟩ : ∃ q, q = Tr.few ms := ⟨_, rfl⟩
  rw [← hq0] at HF0 HWK
  rw [← hq1] at HF1 HMF
  have HQ1 := Lib.hid hq1
  clear hE h0 h1 m0 m1 hq0 hq1
  go_enter Tryd.func5, Tryd.ntmps5
  go_wp2_with fail
  refine HAW.out.mono ?_
  rintro e w1 ⟨rfl, hb1⟩
  have HB1 := Lib.hid hb1
  clear hb1 HAW
  go_wp2_with fail
  refine (HF0.out w1 HB1.out).mono ?_
  rintro e w2 ⟨rfl, hb2⟩
  have HB2 := Lib.hid (HB1.out.trans (hb2.mono HB1.out.size))
  clear hb2 HF0
  go_wp2_with fail
  refine (HF1.out w2 HB2.out).mono ?_
  rintro e w3 ⟨rfl, hb3⟩
  have HB3 := Lib.hid (HB2.out.trans (hb3.mono HB2.out.size))
  clear hb3 HF1 HB1 HB2
  cases q0 with
  | false =>
    go_wp2_with fail
    go_ret
    exact ⟨rfl, HB3.out⟩
  | true =>
  cases q1 with
  | false =>
    go_wp2_with fail
    go_ret
    exact ⟨rfl, HB3.out⟩
  | true =>
  have hm60 : ms.length ≤ 60 := by
    have h5 := HQ1.out.symm
    unfold Tr.few at h5
    rw [Bool.and_eq_true] at h5
    exact of_decide_eq_true h5.2
  go_wp2_with fail
  refine (HWK.out (by trivial) w3 HB3.out).mono ?_
  rintro e w4 ⟨T, rfl, hT, hb4⟩
  obtain ⟨rm, hrm⟩ : ∃ rm, rm = roomT room := ⟨_, rfl⟩
  have hr64 : rm ≤ 64 := by rw [hrm]; unfold roomT; split <;> omega
  have HG0 := Lib.hid (Tr.Good.walk os (Tr.Good.nil (roomT room)))
  rw [← hrm] at hT HG0
  clear hrm
  obtain ⟨L, hL⟩ : ∃ L, L = Tr.walk rm [] os := ⟨_, rfl⟩
  rw [← hL] at hT HG0
  have hLl : L.length ≤ 64 := Nat.le_trans HG0.out.le hr64
  have HB4 := Lib.hid (HB3.out.trans (hb4.mono HB3.out.size))
  have HCP := Lib.hid (copy_any hT (by omega))
  have HT4 := Lib.hid (And.intro hT hb4.size)
  clear hb4 hT hL HWK
  go_wp2_with fail
  refine HCP.out.mono ?_
  rintro e w5 ⟨C, rfl, hC5, hb5⟩
  have HB5 := Lib.hid (HB4.out.trans (hb5.mono HB4.out.size))
  have HT5 := Lib.hid (HT4.out.1.keep hb5)
  have HS5 := Lib.hid hb5.size
  have HC5 := Lib.hid hC5
  have HALC := Lib.hid (all_any hC5 (by omega))
  clear hC5 hb5 HCP
  go_wp2_with fail
  refine HALC.out.mono ?_
  rintro e w6 ⟨v6, rfl, hr6, hb6⟩
  have HALT := Lib.hid (all_any (HT5.out.keep hb6) (by omega))
  have HR6 := Lib.hid (And.intro hr6 hb6)
  clear hr6 hb6 HALC
  go_wp2_with fail
  refine HALT.out.mono ?_
  rintro e w7 ⟨v7, rfl, hr7, hb7⟩
  have HRE := Lib.hid (records_same (own_below HR6.out.1 hb7) hr7 (by omega))
  have HB57 := Lib.hid (HR6.out.2.trans (hb7.mono HR6.out.2.size))
  clear hr7 hb7 HALT HR6
  go_wp2_with fail
  refine HRE.out.mono ?_
  rintro e w8 ⟨rfl, hb8⟩
  have HB58 := Lib.hid (HB57.out.trans (hb8.mono HB57.out.size))
  have HAL8 := Lib.hid (all_any (HT5.out.keep HB58.out) (by omega))
  clear hb8 HRE HB57
  go_wp2_with fail
  refine HAL8.out.mono ?_
  rintro e w9 ⟨v9, rfl, hr9, hb9⟩
  have HB59 := Lib.hid (HB58.out.trans (hb9.mono HB58.out.size))
  have HR9 := Lib.hid hr9
  have HS9 := Lib.hid (And.intro HB58.out.size hb9.size)
  have HC9 := Lib.hid (HC5.out.keep HB59.out)
  have HB9 := Lib.hid (HB5.out.trans (HB59.out.mono HB5.out.size))
  have HT9 := Lib.hid (HT5.out.keep HB59.out)
  clear hr9 hb9 HAL8
  go_wp2_with fail
  go_loopw [13] (fun iv wr => ∃ k : Nat, k ≤ ms.length ∧ iv = .int .i64 k ∧ TreeAt (fun x => (w4.heap.size ≤ x ∧ x < w5.heap.size) ∨ w9.heap.size ≤ x) wr C rm (Tr.walk rm L (ms.take k)) ∧ OutT (fun x => (w4.heap.size ≤ x ∧ x < w5.heap.size) ∨ w9.heap.size ≤ x) w9 wr) (fun iv _ => ms.length - (intOf iv).toNat)
  case atStart => exact ⟨0, Nat.zero_le _, rfl, HC9.out.mono (fun x h => .inl h), OutT.refl _ _⟩
  case round =>
    obtain ⟨k, hk, rfl, hC, ho⟩ := hrel
    have hbw : Below w.heap.size w wr := HB9.out.trans (ho.below (base := w.heap.size) (fun x _ h => by have := HB4.out.size; have := HB9.out.size; omega) HB9.out.size)
    by_cases hlt : k < ms.length
    · obtain ⟨gb, go, rfl, hgl, hcc⟩ := HM.out (by omega)
      have hx := hcc k hlt
      have h0 := (hbw.cell (p := ⟨gb, go + k * 11, none⟩) hgl).trans hx.1
      have hat := hx.2.keep hbw hgl
      have hkI : (k : Int) < (ms.length : Int) := by omega
      have hk0 : (0 : Int) ≤ (k : Int) := by omega
      have hgk := HG0.out.walk (ms.take k)
      have HDO := Lib.hid (do_anyT ms[k] hgk hC (by have := hgk.le; omega) (HMF.out (by trivial) k hlt).1 (HE.out.next hbw))
      have HTK := Lib.hid (Tr.walk_take rm L ms k hlt)
      have HLT := Lib.hid hlt
      have HO := Lib.hid ho
      unfold oV at HDO
      generalize ms[k] = o at h0 hat HDO HTK
      obtain ⟨d0, d1, d2, d3, d4, d5, d6, d7, d8, d9⟩ := hat
      clear hcc hx hC hbw hgk hgl ho
      go_wp2_with fail
      refine HDO.out.mono ?_
      rintro e w10 ⟨v, rfl, hv, hT2, ho2⟩
      have HREL := Lib.hid (And.intro hT2 ho2)
      clear hv hT2 ho2 HDO h0 d0 d1 d2 d3 d4 d5 d6 d7 d8 d9
      go_wp2_with fail
      go_roundw
      case rel =>
        refine ⟨k + 1, by have := HLT.out; omega, by go_num, ?_, HO.out.trans HREL.out.2 (fun _ _ h => h) (fun _ _ h => h)⟩
        rw [HTK.out]
        refine HREL.out.1.mono (fun x hx => ?_)
        rcases hx with hx | hx
        · exact hx
        · have := HO.out.size
          exact .inr (by omega)
      case measure => have := HLT.out; simp [intOf]; omega
    · have hkn : k = ms.length := by omega
      subst hkn
      rw [List.take_of_length_le (Nat.le_refl _)] at hC
      have hTt : TreeAt (fun x => w3.heap.size ≤ x ∧ x < w4.heap.size) wr T rm L := HT9.out.out ho (fun x h1 _ h2 => by have := HB59.out.size; have := HS5.out; omega)
      have hr9 : RRow w8.heap.size wr v9 L := own_kept HR9.out (fun q hq => by
        have hq2 := World.ownsRow.lt HR9.out q hq
        exact ho.block q hq2.2 (fun h => by have := HS9.out.1; omega))
      have HAT := Lib.hid (all_any hTt (by omega))
      have HTT := Lib.hid (And.intro hTt (And.intro hC (And.intro hr9 (And.intro ho hbw))))
      clear hTt hC hr9 ho hbw
      go_wp2_with fail
      refine HAT.out.mono ?_
      rintro e w10 ⟨v10, rfl, hr10, hb10⟩
      have HRE := Lib.hid (records_same hr10 (own_below HTT.out.2.2.1 hb10) (by omega))
      have HB10 := Lib.hid hb10
      clear hr10 hb10 HAT
      go_wp2_with fail
      refine HRE.out.mono ?_
      rintro e w11 ⟨rfl, hb11⟩
      have HBR := Lib.hid (HB10.out.trans (hb11.mono HB10.out.size))
      have HT11 := Lib.hid (HTT.out.1.keep HBR.out)
      have HC11 := Lib.hid ((HTT.out.2.1.keep HBR.out).bound)
      have HW11 := Lib.hid (HTT.out.2.2.2.2.trans (HBR.out.mono HTT.out.2.2.2.2.size))
      have HZ := Lib.hid (show w4.heap.size ≤ w9.heap.size ∧ w9.heap.size ≤ w11.heap.size from ⟨by have := HS5.out; have := HB59.out.size; omega, by have := HTT.out.2.2.2.1.size; have := HBR.out.size; omega⟩)
      clear hb11 HRE HB10 HTT
      go_wp2_with fail
      go_loopw [14] (fun iv wr => ∃ k : Nat, k ≤ ms.length ∧ iv = .int .i64 k ∧ TreeAt (fun x => (w3.heap.size ≤ x ∧ x < w4.heap.size) ∨ w11.heap.size ≤ x) wr T rm (Tr.walk rm L (ms.take k)) ∧ OutT (fun x => (w3.heap.size ≤ x ∧ x < w4.heap.size) ∨ w11.heap.size ≤ x) w11 wr) (fun iv _ => ms.length - (intOf iv).toNat)
      case atStart => exact ⟨0, Nat.zero_le _, rfl, HT11.out.mono (fun x h => .inl h), OutT.refl _ _⟩
      case round =>
        obtain ⟨k, hk, rfl, hC, ho⟩ := hrel
        have hbw : Below w.heap.size w wr := HW11.out.trans (ho.below (base := w.heap.size) (fun x _ h => by have := HB3.out.size; have := HW11.out.size; omega) HW11.out.size)
        by_cases hlt : k < ms.length
        · obtain ⟨gb, go, rfl, hgl, hcc⟩ := HM.out (by omega)
          have hx := hcc k hlt
          have h0 := (hbw.cell (p := ⟨gb, go + k * 11, none⟩) hgl).trans hx.1
          have hat := hx.2.keep hbw hgl
          have hkI : (k : Int) < (ms.length : Int) := by omega
          have hk0 : (0 : Int) ≤ (k : Int) := by omega
          have hgk := HG0.out.walk (ms.take k)
          have HDO := Lib.hid (do_anyT ms[k] hgk hC (by have := hgk.le; omega) (HMF.out (by trivial) k hlt).1 (HE.out.next hbw))
          have HTK := Lib.hid (Tr.walk_take rm L ms k hlt)
          have HLT := Lib.hid hlt
          have HO := Lib.hid ho
          unfold oV at HDO
          generalize ms[k] = o at h0 hat HDO HTK
          obtain ⟨d0, d1, d2, d3, d4, d5, d6, d7, d8, d9⟩ := hat
          clear hcc hx hC hbw hgk hgl ho
          go_wp2_with fail
          refine HDO.out.mono ?_
          rintro e w10 ⟨v, rfl, hv, hT2, ho2⟩
          have HREL := Lib.hid (And.intro hT2 ho2)
          clear hv hT2 ho2 HDO h0 d0 d1 d2 d3 d4 d5 d6 d7 d8 d9
          go_wp2_with fail
          go_roundw
          case rel =>
            refine ⟨k + 1, by have := HLT.out; omega, by go_num, ?_, HO.out.trans HREL.out.2 (fun _ _ h => h) (fun _ _ h => h)⟩
            rw [HTK.out]
            refine HREL.out.1.mono (fun x hx => ?_)
            rcases hx with hx | hx
            · exact hx
            · have := HO.out.size
              exact .inr (by omega)
          case measure => have := HLT.out; simp [intOf]; omega
        · have hkn : k = ms.length := by omega
          subst hkn
          rw [List.take_of_length_le (Nat.le_refl _)] at hC
          have hgl := HG0.out.walk ms
          have hwl : (Tr.walk rm L ms).length ≤ 1048576 := by have := hgl.le; omega
          have hCc := HC11.out.out ho (fun x h1 _ h2 => by have := HZ.out; have := HS5.out; omega)
          have HAT := Lib.hid (all_any hC hwl)
          have HCC := Lib.hid (And.intro hCc (And.intro hwl hbw))
          clear hC hCc hgl hwl ho hbw
          go_wp2_with fail
          refine HAT.out.mono ?_
          rintro e w12 ⟨v12, rfl, hr12, hb12⟩
          have HAC := Lib.hid (all_any (HCC.out.1.keep hb12) HCC.out.2.1)
          have HR12 := Lib.hid (And.intro hr12 hb12)
          clear hr12 hb12 HAT
          go_wp2_with fail
          refine HAC.out.mono ?_
          rintro e w13 ⟨v13, rfl, hr13, hb13⟩
          have HRE := Lib.hid (records_same (own_below HR12.out.1 hb13) hr13 HCC.out.2.1)
          have HB13 := Lib.hid (HR12.out.2.trans (hb13.mono HR12.out.2.size))
          clear hr13 hb13 HAC
          go_wp2_with fail
          refine HRE.out.mono ?_
          rintro e w14 ⟨rfl, hb14⟩
          have HFIN := Lib.hid (HCC.out.2.2.trans ((HB13.out.trans (hb14.mono HB13.out.size)).mono HCC.out.2.2.size))
          clear hb14 HRE
          go_wp2_with fail
          go_ret
          exact ⟨rfl, HFIN.out⟩
end Go.Proofs.YtfeaonbeklmfgaaDoor
