/- FrameBack, over what package frame's calls tell. -/
import Derived.Test.YtocfppopnoegmaaDoorFrTl
namespace Go.Proofs.YtocfppopnoegmaaDoor
set_option maxRecDepth 8000
open Go.RowKit

def BackTo (l : List (List UInt8)) (r i : Value) : Prop := ∃ k : Nat, k ≤ l.length ∧ i = .int .i64 (k : Int) ∧ r = .bool ((l.take k).all Fr.ok)
set_option maxHeartbeats 3200000 in
theorem frameBack_any {Env : World → Prop} (hF : FrOk Env) (A1 : Option Addr) (c1 n1 : Nat) (l : List (List UInt8)) (w : World) (hE : Env w)
    (hn1 : l.length = n1) (hl : LC w w.heap.size A1 l) (hc1 : n1 ≤ c1) (hm1 : c1 ≤ 9223372036854775807) (hq : ∀ b ∈ l, b.length ≤ 9223372036854775807) :
    Calls Tryd.prog 4 #[.slice A1 n1 c1] w fun e w' => e = .returned (.bool true) ∧ Below w.heap.size w w' := by
  have HN1 := Lib.hid hn1
  have HQ := Lib.hid hq
  have HF := Lib.hid hF
  clear hn1 hq hF
  go_enter Tryd.func4, Tryd.ntmps4
  go_wp2_with fail
  refine (awake9_any HF.out w hE).mono ?_
  rintro _ w1 ⟨rfl, hb1⟩
  have hE1 := HF.out.next _ _ hE hb1
  have hl := hl.next hb1
  go_wp2_with fail
  refine (refFew_any A1 c1 n1 l w1 HN1.out hl (by omega) HQ.out).mono ?_
  rintro _ w' ⟨rfl, rfl⟩
  cases hfew : Fr.few l with
  | false =>
    go_wp2_with fail
    go_ret
    exact ⟨rfl, hb1⟩
  | true =>
    have hot := Fr.okTotal_few hfew
    have HOT : Hid (Fr.okTotal l ≤ 2120) := Lib.hid hot
    have HP := Lib.hid (HF.out.all A1 c1 n1 l w1 hE1 HN1.out hl hc1 hm1 (by omega) HQ.out)
    have HFEW := Lib.hid hfew
    clear hfew hot
    obtain ⟨rb, hrb⟩ : ∃ r, r = l.all Fr.ok := ⟨_, rfl⟩
    have HRB := Lib.hid hrb
    clear hrb
    go_wp2_with fail
    refine HP.out.mono ?_
    rintro _ w2 hp
    obtain ⟨Ax, cx, mx, rfl, hmx, hbx, hcx, hcm, hb2⟩ := hp.form
    have hE2 := HF.out.next _ _ hE1 hb2
    have hbw := hb1.trans (hb2.mono hb1.size)
    have hl := hl.next hb2
    obtain ⟨kx, hkx⟩ : ∃ k, k = codeOf (Fr.all l) := ⟨_, rfl⟩
    rw [← hkx]
    have HKX := Lib.hid hkx
    have HMX := Lib.hid hmx
    have HBX := Lib.hid hbx
    clear hp hb2 hE1 hb1 hkx hmx hbx HP
    go_wp2_with fail
    go_loop [7, 8] (fun r i => BackTo l r i) (fun _ i => n1 - (intOf i).toNat)
    case atStart => exact ⟨0, Nat.zero_le _, rfl, by rw [List.take_zero]; rfl⟩
    case round =>
      obtain ⟨k, hk, rfl, rfl⟩ := hrel
      have hnl := HN1.out
      by_cases hlt : k < n1
      · have hkl : k < l.length := by omega
        have HSN := Lib.hid (show (l.take (k + 1)).all Fr.ok = ((l.take k).all Fr.ok && Fr.ok l[k]) by
          rw [List.take_succ_eq_append_getElem hkl, List.all_append, List.all_cons]
          simp)
        obtain ⟨b, off, rfl, hbb, hc⟩ := hl (by omega)
        obtain ⟨Ak, ck, c0, hx0⟩ := hc k hkl
        have HOK := Lib.hid (show Fr.ok l[k] = (decide (0 < l[k].length) && decide (l[k].length ≤ 4000)) from rfl)
        obtain ⟨m, hm⟩ : ∃ m, m = l[k].length := ⟨_, rfl⟩
        rw [← hm] at c0 HOK
        obtain ⟨ok, hok⟩ : ∃ q, q = Fr.ok l[k] := ⟨_, rfl⟩
        rw [← hok] at HOK HSN
        have j0 : (0 : Int) ≤ (k : Int) := by omega
        have j1 : (k : Int) < (n1 : Int) := by omega
        obtain ⟨pr, hpr⟩ : ∃ q, q = (l.take k).all Fr.ok := ⟨_, rfl⟩
        rw [← hpr] at HSN ⊢
        clear hm hok hkl hc hx0 hnl hpr
        cases pr with
        | false =>
          go_wp2_with fail
          go_round
          case rel => exact ⟨k + 1, by have := HN1.out; omega, by go_num, by rw [HSN.out, Bool.false_and]⟩
          case measure => simp [intOf]; omega
        | true =>
          by_cases h0 : 0 < m
          · have i0 : (0 : Int) < (m : Int) := by omega
            by_cases h4 : m ≤ 4000
            · have i4 : (m : Int) ≤ 4000 := by omega
              have HV := Lib.hid (HSN.out.trans (by rw [HOK.out, decide_eq_true h0, decide_eq_true h4]; rfl : (true && ok) = true))
              go_wp2_with fail
              go_round
              case rel => exact ⟨k + 1, by have := HN1.out; omega, by go_num, by rw [HV.out]⟩
              case measure => simp [intOf]; omega
            · have i4 : ¬ (m : Int) ≤ 4000 := by omega
              have HV := Lib.hid (HSN.out.trans (by rw [HOK.out, decide_eq_false h4, Bool.and_false]; rfl : (true && ok) = false))
              go_wp2_with fail
              go_round
              case rel => exact ⟨k + 1, by have := HN1.out; omega, by go_num, by rw [HV.out]⟩
              case measure => simp [intOf]; omega
          · have i0 : ¬ (0 : Int) < (m : Int) := by omega
            have HV := Lib.hid (HSN.out.trans (by rw [HOK.out, decide_eq_false h0]; rfl : (true && ok) = false))
            go_wp2_with fail
            go_round
            case rel => exact ⟨k + 1, by have := HN1.out; omega, by go_num, by rw [HV.out]⟩
            case measure => simp [intOf]; omega
      · have htk : l.take k = l := List.take_of_length_le (by omega)
        rw [htk, ← HRB.out]
        clear htk hnl
        cases rb with
        | false =>
          have hbad : mx = 0 ∧ (kx = 1 ∨ kx = 2) := by
            obtain ⟨e, he, hp⟩ := Fr.all_bad HRB.out.symm
            have h1 := HMX.out
            have h2 := HKX.out
            rw [hp] at h1 h2
            refine ⟨h1.symm, ?_⟩
            rcases he with rfl | rfl
            · exact .inl h2
            · exact .inr h2
          obtain ⟨rfl, hk12⟩ := hbad
          clear HKX
          rcases hk12 with rfl | rfl
          · go_wp2_with fail
            go_ret
            exact ⟨rfl, hbw⟩
          · go_wp2_with fail
            go_ret
            exact ⟨rfl, hbw⟩
        | true =>
          have hall := Fr.all_of_ok HRB.out.symm
          have hkx : kx = 0 := by rw [HKX.out, hall]; rfl
          subst hkx
          have hm := HMX.out
          have hbx := HBX.out
          rw [hall] at hm hbx
          have hbx : BCells w2 w2.heap.size Ax (Fr.frames l) := hbx
          have hm : (Fr.frames l).length = mx := hm
          have hmt : mx ≤ 16777216 := by
            have h1 := Fr.frames_total l
            have h2 := Fr.okTotal_take l l.length (by rw [List.take_length]; exact HRB.out.symm)
            rw [List.take_length] at h2
            have := HOT.out
            omega
          have hscan := Fr.scan_all HRB.out.symm
          have HS := Lib.hid (HF.out.scan Ax cx mx (Fr.frames l) w2 hE2 hm hbx hcx hcm hmt)
          rw [hm] at hscan
          have HSC := Lib.hid hscan
          clear hall hm hbx hscan HKX HMX HBX
          go_wp2_with fail
          refine HS.out.mono ?_
          rintro _ w3 ⟨Ap, cp, mp, rfl, hmp, _, _, hlp, hb3⟩
          rw [HSC.out] at hmp hlp ⊢
          dsimp only at hmp hlp ⊢
          rw [HN1.out] at hmp
          subst hmp
          have hl := hl.next hb3
          have hbw := hbw.trans (hb3.mono hbw.size)
          have HLI := Lib.hid (lists_to w3 A1 Ap l mp mp c1 cp HN1.out HN1.out hl hlp (by omega))
          have e4 : ((mx : Int) == (mx : Int)) = true := by simp
          go_wp2_with fail
          refine HLI.out.mono ?_
          rintro _ w4 ⟨rfl, hb4⟩
          have hbw := hbw.trans (hb4.mono hbw.size)
          go_wp2_with fail
          go_ret
          first
            | exact ⟨rfl, hbw⟩
            | exact ⟨ret_bool (by simp), hbw⟩
end Go.Proofs.YtocfppopnoegmaaDoor
