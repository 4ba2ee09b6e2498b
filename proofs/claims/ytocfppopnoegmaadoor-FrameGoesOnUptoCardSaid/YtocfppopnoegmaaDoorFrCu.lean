/- FrameCuts, over what package frame's calls tell, where the frames are of at most 2^24 bytes. -/
import Derived.Test.YtocfppopnoegmaaDoorFrBk
namespace Go.Proofs.YtocfppopnoegmaaDoor
set_option maxRecDepth 8000
open Go.RowKit

theorem take_cells {w : World} {bd : Nat} {A : Option Addr} {l : List UInt8} (h : BCells w bd A l) (k : Nat) : BCells w bd A (l.take k) := fun hn => by
  rw [List.length_take] at hn
  obtain ⟨b, off, e, hlt, hc⟩ := h (by omega)
  refine ⟨b, off, e, hlt, fun j hj => ?_⟩
  rw [List.length_take] at hj
  rw [List.getElem_take]
  exact hc j (by omega)
theorem take_lc {w : World} {bd : Nat} {A : Option Addr} {l : List (List UInt8)} (h : LC w bd A l) (k : Nat) : LC w bd A (l.take k) := fun hn => by
  rw [List.length_take] at hn
  obtain ⟨b, off, e, hlt, hc⟩ := h (by omega)
  refine ⟨b, off, e, hlt, fun j hj => ?_⟩
  rw [List.length_take] at hj
  rw [List.getElem_take]
  exact hc j (by omega)
/-- All's answer is right, where it tells no error. -/
theorem all_code {l : List (List UInt8)} (h : codeOf (Fr.all l) = 0) : l.all Fr.ok = true := by
  cases ha : l.all Fr.ok with
  | true => rfl
  | false =>
    exfalso
    obtain ⟨e, he, hp⟩ := Fr.all_bad ha
    rw [hp] at h
    have : (e : Int) = 0 := h
    omega
def CutsTo (l : List (List UInt8)) (k : Nat) (wv av : Value) : Prop := ∃ j a : Nat, wv = .int .i64 (j : Int) ∧ av = .int .i64 (a : Int) ∧ Fr.WholeAt l k j a
set_option maxHeartbeats 3200000 in
theorem frameCuts_any {Env : World → Prop} (hF : FrOk Env) (A1 : Option Addr) (c1 n1 q : Nat) (l : List (List UInt8)) (w : World) (hE : Env w) (hq16 : q < 65536)
    (hn1 : l.length = n1) (hl : LC w w.heap.size A1 l) (hc1 : n1 ≤ c1) (hm1 : c1 ≤ 9223372036854775807) (hq : ∀ b ∈ l, b.length ≤ 9223372036854775807) (hot : Fr.okTotal l ≤ 16777216) :
    Calls Tryd.prog 5 #[.slice A1 n1 c1, .int .u16 (q : Int)] w fun e w' => e = .returned (.bool true) ∧ Below w.heap.size w w' := by
  have HN1 := Lib.hid hn1
  have HQ := Lib.hid hq
  have HF := Lib.hid hF
  have HOT := Lib.hid hot
  obtain ⟨few, hfew⟩ : ∃ x, x = Fr.few l := ⟨_, rfl⟩
  have HFEW := Lib.hid hfew
  clear hn1 hq hF hot hfew
  go_enter Tryd.func5, Tryd.ntmps5
  go_wp2_with fail
  refine (awake9_any HF.out w hE).mono ?_
  rintro _ w1 ⟨rfl, hb1⟩
  have hE1 := HF.out.next _ _ hE hb1
  have hl := hl.next hb1
  go_wp2_with fail
  refine (refFew_any A1 c1 n1 l w1 HN1.out hl (by omega) HQ.out).mono ?_
  rintro _ w' ⟨rfl, rfl⟩
  rw [← HFEW.out]
  have HP := Lib.hid (HF.out.all A1 c1 n1 l w1 hE1 HN1.out hl hc1 hm1 HOT.out HQ.out)
  go_wp2_with fail
  refine HP.out.mono ?_
  rintro _ w2 hp
  obtain ⟨Ax, cx, mx, rfl, hmx, hbx, hcx, hcm, hb2⟩ := hp.form
  have hE2 := HF.out.next _ _ hE1 hb2
  have hbw := hb1.trans (hb2.mono hb1.size)
  have hl := hl.next hb2
  obtain ⟨kx, hkx⟩ : ∃ k, k = codeOf (Fr.all l) := ⟨_, rfl⟩
  rw [← hkx]
  have HKX := Lib.hid hkx
  have HMX := Lib.hid hmx
  have HBX := Lib.hid hbx
  clear hp hb2 hE1 hb1 hkx hmx hbx HP
  obtain ⟨st, hst⟩ : ∃ x : Bool, x = (!few || !decide (kx = 0) || decide (mx = 0)) := ⟨_, rfl⟩
  have HST := Lib.hid hst
  clear hst
  go_upto_region 4 with fail
  go_cut [32] (fun t wx => t = .bool st ∧ wx = w2)
  case first =>
    cases few with
    | false =>
      have hbv : st = true := by rw [HST.out, show (!false) = true from rfl, Bool.true_or, Bool.true_or]
      subst hbv
      go_wp2_with fail
      go_meet
      first | exact ⟨rfl, rfl⟩ | exact ⟨congrArg Value.bool (by first | rfl | (simp; done) | (simp; omega)), rfl⟩
    | true =>
      by_cases h0 : kx = 0
      · have e0 : (kx != 0) = false := by rw [h0]; rfl
        by_cases h1 : mx = 0
        · have hbv : st = true := by rw [HST.out, decide_eq_true h1, Bool.or_true]
          subst hbv
          have e1 : ((mx : Int) == 0) = true := by rw [h1]; rfl
          clear h0 h1
          go_wp2_with fail
          go_meet
          first | exact ⟨rfl, rfl⟩ | exact ⟨congrArg Value.bool (by first | rfl | (simp; done) | (simp; omega)), rfl⟩
        · have e1 : ((mx : Int) == 0) = false := by simp; omega
          have hbv : st = false := by rw [HST.out, decide_eq_true h0, decide_eq_false h1]; rfl
          subst hbv
          clear h0
          go_wp2_with fail
          go_meet
          first | exact ⟨rfl, rfl⟩ | exact ⟨congrArg Value.bool (by first | rfl | (simp; done) | (simp; omega)), rfl⟩
      · have e0 : (kx != 0) = true := by simpa using h0
        have hbv : st = true := by rw [HST.out, decide_eq_false h0, show (!false) = true from rfl, Bool.or_true, Bool.true_or]
        subst hbv
        clear h0
        go_wp2_with fail
        go_meet
        first | exact ⟨rfl, rfl⟩ | exact ⟨congrArg Value.bool (by first | rfl | (simp; done) | (simp; omega)), rfl⟩
  case rest =>
    obtain ⟨hc1', hc2'⟩ := hcut
    subst hc1'
    replace hc2' := hc2'.symm
    subst hc2'
    cases st with
    | true =>
      go_wp2_with fail
      go_ret
      exact ⟨rfl, hbw⟩
    | false =>
      have hfacts : few = true ∧ kx = 0 ∧ 0 < mx := by
        have h := HST.out
        cases few with
        | false => cases h
        | true =>
          refine ⟨rfl, ?_, ?_⟩
          · by_cases h0 : kx = 0
            · exact h0
            · rw [decide_eq_false h0] at h; simp at h
          · by_cases h0 : mx = 0
            · rw [decide_eq_true h0] at h; simp at h
            · omega
      obtain ⟨hf1, hk0, hm0⟩ := hfacts
      have hok := all_code (HKX.out.symm.trans hk0)
      have hall := Fr.all_of_ok hok
      have hm := HMX.out
      have hbx := HBX.out
      rw [hall] at hm hbx
      have hbx : BCells w2 w2.heap.size Ax (Fr.frames l) := hbx
      have hm : (Fr.frames l).length = mx := hm
      have hmt : mx ≤ 2120 := by
        have h1 := Fr.frames_total l
        have h2 := Fr.okTotal_take l l.length (by rw [List.take_length]; exact hok)
        rw [List.take_length] at h2
        have := Fr.okTotal_few (HFEW.out.symm.trans hf1)
        omega
      obtain ⟨mx1, hmx1⟩ : ∃ x, x = mx + 1 := ⟨_, rfl⟩
      have hw1 : IntKind.i64.wrap ((mx : Int) + 1) = (mx1 : Int) := by rw [IntWalk.i64_in _ (by omega)]; omega
      obtain ⟨k, hk⟩ : ∃ k, k = q % mx1 := ⟨_, rfl⟩
      have hkm : k ≤ mx := by
        have := Nat.mod_lt q (show 0 < mx1 by omega)
        omega
      have hmod : (q : Int) % (mx1 : Int) = (k : Int) := by rw [hk]; rfl
      have hmod2 : (q : Int).tmod (mx1 : Int) = (k : Int) := by rw [hk]; rfl
      have hne1 : ((mx1 : Int) == 0) = false := by simp; omega
      have hne2 : ¬ (mx1 : Int) = 0 := by omega
      have hne3 : ¬ mx1 = 0 := by omega
      have k0 : (k : Int) ≤ (cx : Int) := by omega
      have HSC := Lib.hid (Fr.scan_cut l k hok)
      have hkl : ((Fr.frames l).take k).length = k := by rw [List.length_take]; omega
      have HS := Lib.hid (HF.out.scan Ax cx k ((Fr.frames l).take k) w2 hE2 hkl (take_cells hbx k) (by omega) hcm (by omega))
      have HTL := Lib.hid (Fr.frames_total (l.take (Fr.whole l k)))
      have HKM : Hid (k ≤ 2120) := Lib.hid (by omega)
      have HLEN : Hid (∀ j (hj : j < l.length), l[j].length ≤ 2120) := Lib.hid (fun j hj => by
        have h1 := Fr.total_mem (List.getElem_mem hj)
        have h2 := Fr.frames_total l
        omega)
      subst hk0
      clear hf1 hok hall hm hbx hk hmx1 hkl HST HFEW HKX HMX HBX
      go_wp2_with fail
      refine HS.out.mono ?_
      rintro _ w3 ⟨Ap, cp, mp, rfl, hmp, _, _, hlp, hb3⟩
      rw [HSC.out] at hmp hlp ⊢
      dsimp only at hmp hlp ⊢
      have hl := hl.next hb3
      have hbw := hbw.trans (hb3.mono hbw.size)
      have HMP := Lib.hid hmp
      obtain ⟨ns, hns⟩ : ∃ x, x = (Fr.frames (l.take (Fr.whole l k))).length := ⟨_, rfl⟩
      rw [← hns]
      have HNS := Lib.hid hns
      clear hmp hns hb3 HS
      go_wp2_with fail
      go_loop [12, 13] (fun wv av => CutsTo l k wv av) (fun wv _ => n1 - (intOf wv).toNat)
      case atStart => exact ⟨0, 0, rfl, rfl, Fr.WholeAt.start l k⟩
      case round =>
        obtain ⟨j, a, rfl, rfl, hwa⟩ := hrel
        have hjl : j ≤ n1 := by have := hwa.1; have := HN1.out; omega
        have hak : a ≤ k := hwa.2.2.1
        have HWA := Lib.hid hwa
        clear hwa
        have hkm2 := HKM.out
        obtain ⟨a6, ha6⟩ : ∃ x, x = a + 6 := ⟨_, rfl⟩
        have hw6 : IntKind.i64.wrap ((a : Int) + 6) = (a6 : Int) := by rw [IntWalk.i64_in _ (by omega)]; omega
        by_cases hlt : j < n1
        · have hkl : j < l.length := by have := HN1.out; omega
          obtain ⟨b, off, rfl, hbb, hc⟩ := hl (by omega)
          obtain ⟨Ak, ck, c0, hx0⟩ := hc j hkl
          have hlj := HLEN.out j hkl
          have HSTEP := Lib.hid (fun (h : a + 6 + l[j].length ≤ k) => HWA.out.step hkl h)
          have HSTOP := Lib.hid (fun (h : ¬ a + 6 + l[j].length ≤ k) => HWA.out.stop (fun ⟨_, h'⟩ => h h'))
          obtain ⟨m, hm⟩ : ∃ m, m = l[j].length := ⟨_, rfl⟩
          rw [← hm] at c0 HSTEP HSTOP hlj
          obtain ⟨e, he⟩ : ∃ x, x = a + 6 + m := ⟨_, rfl⟩
          have hwe : IntKind.i64.wrap ((a6 : Int) + (m : Int)) = (e : Int) := by rw [IntWalk.i64_in _ (by omega)]; omega
          rw [← he] at HSTEP HSTOP
          have j0 : (0 : Int) ≤ (j : Int) := by omega
          have j1 : (j : Int) < (n1 : Int) := by omega
          clear hm ha6 he hkl hc hx0
          by_cases hf : e ≤ k
          · have f0 : (e : Int) ≤ (k : Int) := by omega
            have HW := Lib.hid (HSTEP.out hf)
            go_wp2_with fail
            go_round
            case rel => exact ⟨j + 1, e, by go_num, rfl, HW.out⟩
            case measure => simp [intOf]; omega
          · have f0 : ¬ (e : Int) ≤ (k : Int) := by omega
            obtain ⟨w1', w2'⟩ := HSTOP.out hf
            have hns : ns = a := by rw [HNS.out, HTL.out, w1', ← w2']
            subst hns
            have hmp := HMP.out
            rw [w1'] at hmp hlp
            rw [List.length_take, Nat.min_eq_left (by have := HN1.out; omega)] at hmp
            subst hmp
            have HLI := Lib.hid (lists_to w3 Ap _ (l.take mp) mp mp cp c1 (by rw [List.length_take, Nat.min_eq_left (by have := HN1.out; omega)]) (by rw [List.length_take, Nat.min_eq_left (by have := HN1.out; omega)]) hlp (take_lc hl mp) (by omega))
            have e4 : ((ns : Int) == (ns : Int)) = true := by simp
            have k9 : (mp : Int) ≤ (c1 : Int) := by omega
            clear w1' w2' hlp HNS HTL HMP HSC
            go_wp2_with fail
            refine HLI.out.mono ?_
            rintro _ w4 ⟨rfl, hb4⟩
            have hbw := hbw.trans (hb4.mono hbw.size)
            go_wp2_with fail
            go_ret
            first
              | exact ⟨rfl, hbw⟩
              | exact ⟨ret_bool (by simp), hbw⟩
        · obtain ⟨w1', w2'⟩ := HWA.out.stop (fun ⟨h, _⟩ => by have := HN1.out; omega)
          clear ha6
          have hns : ns = a := by rw [HNS.out, HTL.out, w1', ← w2']
          subst hns
          have hmp := HMP.out
          rw [w1'] at hmp hlp
          rw [List.length_take, Nat.min_eq_left (by have := HN1.out; omega)] at hmp
          subst hmp
          have HLI := Lib.hid (lists_to w3 Ap _ (l.take mp) mp mp cp c1 (by rw [List.length_take, Nat.min_eq_left (by have := HN1.out; omega)]) (by rw [List.length_take, Nat.min_eq_left (by have := HN1.out; omega)]) hlp (take_lc hl mp) (by omega))
          have e4 : ((ns : Int) == (ns : Int)) = true := by simp
          have k9 : (mp : Int) ≤ (c1 : Int) := by omega
          clear w1' w2' hlp HNS HTL HMP HSC
          go_wp2_with fail
          refine HLI.out.mono ?_
          rintro _ w4 ⟨rfl, hb4⟩
          have hbw := hbw.trans (hb4.mono hbw.size)
          go_wp2_with fail
          go_ret
          first
            | exact ⟨rfl, hbw⟩
            | exact ⟨ret_bool (by simp), hbw⟩
end Go.Proofs.YtocfppopnoegmaaDoor
