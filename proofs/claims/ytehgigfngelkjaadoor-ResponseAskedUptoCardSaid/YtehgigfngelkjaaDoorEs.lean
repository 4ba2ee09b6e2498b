/- What the document's Right of responses answers, for any response with texts of at most 2^30 bytes. -/
import Derived.Test.YtehgigfngelkjaaDoorEr
namespace Go.Proofs.YtehgigfngelkjaaDoor
set_option maxRecDepth 8000
open Go.RowKit

theorem head_eq {v : ByteArray} (h : 0 < v.size) : v.data.toList.head? = some v[0] := by
  rw [List.head?_eq_getElem?]
  exact Lib.data_getElem? v 0 h
theorem last_eq {v : ByteArray} (h : 0 < v.size) : v.data.toList.reverse.head? = some v[v.size - 1] := by
  rw [List.head?_reverse, List.getLast?_eq_getElem?]
  have hz : v.data.toList.length = v.size := by simp
  rw [hz]
  exact Lib.data_getElem? v (v.size - 1) (by omega)
theorem ends_nil {v : ByteArray} (h : ¬ 0 < v.size) : Rsp.endsOk v.data.toList = true := by
  have hz : v.data.toList.length = v.size := by simp
  have : v.data.toList = [] := List.length_eq_zero_iff.1 (by omega)
  rw [this]; rfl

set_option maxHeartbeats 1600000 in
theorem refRight_any (s : Int) (A : Option Addr) (cap : Nat) (l : List Pct.PairL) (b : List UInt8) (w : World) (hl : PCells w w.heap.size A l) (hq : ∀ k (h : k < l.length), l[k].1.length ≤ 1073741824 ∧ l[k].2.length ≤ 1073741824) :
    Calls Tryd.prog 14 #[rspV s (.slice A l.length cap) b] w fun e w' => e = .returned (.bool (Rsp.right s l b)) ∧ Below w.heap.size w w' := by
  have hE := S_empty (Rsp.reason s)
  have hR := fun w' => refReason_any s w'
  have HV := Lib.hid (show Rsp.right s l b = ((!(Rsp.reason s).isEmpty && decide (l.length ≤ 32) && decide (b.length ≤ 8192)) && l.all Rsp.hdrOk) from rfl)
  obtain ⟨x, hx⟩ : ∃ x, x = Rsp.reason s := ⟨_, rfl⟩
  rw [← hx] at HV hE hR
  clear hx
  have hz : (S b).size = b.length := rfl
  obtain ⟨n, hn⟩ : ∃ n, n = b.length := ⟨_, rfl⟩
  rw [← hn] at HV hz
  clear hn
  unfold rspV
  go_enter Tryd.func14, Tryd.ntmps14
  go_upto_region 1 with fail
  have B0 : BlkR (w.alloc (.cells #[.int .i64 s, .slice A l.length cap, .string (S b)] 24)) w.heap.size (.int .i64 s) (.slice A l.length cap) (.string (S b)) := heap_alloc_new w _
  have hb0 : Below w.heap.size w (w.alloc (.cells #[.int .i64 s, .slice A l.length cap, .string (S b)] 24)) := (Below.refl _ _).alloc (Nat.le_refl _) _
  have hl0 := hl.next hb0
  have hs0 : w.heap.size < (w.alloc (.cells #[.int .i64 s, .slice A l.length cap, .string (S b)] 24)).heap.size := by simp
  generalize (w.alloc (.cells #[.int .i64 s, .slice A l.length cap, .string (S b)] 24)) = w0 at B0 hb0 hl0 hs0 ⊢
  clear hl
  have c0 := B0.c0
  have c1 := B0.c1
  have c2 := B0.c2
  cases h0 : x.isEmpty with
  | true =>
    rw [h0] at HV hE
    have HF := Lib.hid (show Rsp.right s l b = false by rw [HV.out]; rfl)
    go_wp2_with fail
    refine (hR _).mono ?_
    rintro e w1 ⟨rfl, rfl⟩
    go_wp2
    go_ret
    exact ⟨by rw [HF.out]; rfl, hb0⟩
  | false =>
    rw [h0] at HV hE
    by_cases h1 : l.length ≤ 32
    · by_cases h2 : n ≤ 8192
      · have i1 : ¬ ((l.length : Int) > 32) := by omega
        have i2 : ¬ ((n : Int) > 8192) := by omega
        have HRT := Lib.hid (show Rsp.right s l b = l.all Rsp.hdrOk2 by
          rw [HV.out, decide_eq_true h1, decide_eq_true h2, show Rsp.hdrOk = Rsp.hdrOk2 from funext Rsp.hdrOk_same]
          rfl)
        clear HV h2
        go_wp2_with fail
        refine (hR _).mono ?_
        rintro e w1 ⟨rfl, rfl⟩
        clear hR
        go_wp2
        clear c0 c1 c2 hE
        go_loopw [3] (fun i wr => ∃ k : Nat, k ≤ l.length ∧ i = .int .i64 k ∧ (∀ j (hj : j < l.length), j < k → Rsp.hdrOk2 l[j] = true) ∧ Below w0.heap.size w0 wr) (fun i _ => l.length - (intOf i).toNat)
        case atStart => exact ⟨0, Nat.zero_le _, rfl, fun j _ hj => absurd hj (by omega), Below.refl _ _⟩
        case round =>
          obtain ⟨k, hk, rfl, hall, hb⟩ := hrel
          have HALL := Lib.hid hall
          clear hall
          have c1 := BlkR.c1 (w := wr) (x := .int .i64 s) (z := .string (S b)) ((hb.block _ hs0).trans B0)
          have hbw := hb0.trans (hb.mono hb0.size)
          by_cases hlt : k < l.length
          · obtain ⟨ab, off, rfl, hbb, hcl⟩ := hl0 (by omega)
            obtain ⟨p0', p1'⟩ := hcl k hlt
            obtain ⟨hq1, hq2⟩ := hq k hlt
            clear hcl hq
            have HOK := Lib.hid (show Rsp.hdrOk2 l[k] = (Ck.token l[k].1 && Req.within 32 126 l[k].2 && !Req.alike l[k].1 Req.cl && Rsp.endsOk l[k].2) from rfl)
            have HBAD := Lib.hid (show Rsp.hdrOk2 l[k] = false → l.all Rsp.hdrOk2 = false from fun e => List.all_eq_false.2 ⟨l[k], List.getElem_mem hlt, by rw [e]; simp⟩)
            have HGO := Lib.hid (show Rsp.hdrOk2 l[k] = true → ∀ j (hj : j < l.length), j < k + 1 → Rsp.hdrOk2 l[j] = true from fun e j hj hjk => by
              by_cases e' : j = k
              · subst e'; exact e
              · exact HALL.out j hj (by omega))
            have hT := fun w' => refToken_any l[k].1 w' hq1
            have hX := fun w' => shown_any l[k].2 32 32 w' hq2 rfl
            have hAl : ∀ w' : World, Calls Tryd.prog 39 #[.string (S l[k].1), .string ⟨#[99, 111, 110, 116, 101, 110, 116, 45, 108, 101, 110, 103, 116, 104]⟩] w' fun e w'' => e = .returned (.bool (Req.alike l[k].1 Req.cl)) ∧ w' = w'' := fun w' => refAlike_s (S l[k].1) (S Req.cl) w' hq1
            obtain ⟨o, ho⟩ : ∃ o, o = Rsp.hdrOk2 l[k] := ⟨_, rfl⟩
            rw [← ho] at HOK HBAD HGO
            clear ho hq1
            obtain ⟨nm, hnm⟩ : ∃ nm, nm = l[k].1 := ⟨_, rfl⟩
            rw [← hnm] at p0' hT hAl HOK
            have hvs : (S l[k].2).data.toList = l[k].2 := S_toList _
            obtain ⟨vl, hvl⟩ : ∃ v, v = l[k].2 := ⟨_, rfl⟩
            rw [← hvl] at p1' hX HOK hvs hq2
            clear hnm hvl
            have hvz : (S vl).size ≤ 1073741824 := hq2
            generalize S vl = v at p1' hX hvs hvz
            have HVS := Lib.hid hvs
            clear hvs hq2
            have p0 : wr.cell? ⟨ab, off + k * 2, none⟩ = some (.string (S nm)) := (hb.cell (p := ⟨ab, off + k * 2, none⟩) hbb).trans p0'
            have p1 : wr.cell? ⟨ab, off + k * 2 + 1, none⟩ = some (.string v) := (hb.cell (p := ⟨ab, off + k * 2 + 1, none⟩) hbb).trans p1'
            clear p0' p1'
            have j0 : (0 : Int) ≤ (k : Int) := by omega
            have j1 : (k : Int) < (l.length : Int) := by omega
            go_upto_region 7 with fail
            have D : wr.heap.size < (wr.alloc (.cells #[.string (S nm), .string v] 44)).heap.size := by simp
            have B2 : Blk2 (wr.alloc (.cells #[.string (S nm), .string v] 44)) wr.heap.size (S nm) v := Blk2.new wr (S nm) v
            have hb3 : Below w0.heap.size w0 (wr.alloc (.cells #[.string (S nm), .string v] 44)) := hb.alloc hb.size _
            have hbw3 : Below w.heap.size w (wr.alloc (.cells #[.string (S nm), .string v] 44)) := hbw.alloc hbw.size _
            generalize (wr.alloc (.cells #[.string (S nm), .string v] 44)) = w3 at D B2 hb3 hbw3 ⊢
            have e0 := B2.cell0
            have e1 := B2.cell1
            clear B2 p0 p1 c1 hb hbw B0
            cases h3 : Ck.token nm with
            | false =>
              rw [h3] at HOK hT
              have HF := Lib.hid (HBAD.out (by rw [HOK.out]; rfl))
              clear h3
              go_wp2_with fail
              refine (hT _).mono ?_
              rintro e w4 ⟨rfl, rfl⟩
              go_wp2
              go_ret
              exact ⟨ret_bool (HRT.out.trans HF.out).symm, hbw3⟩
            | true =>
              rw [h3] at HOK hT
              clear h3
              cases h4 : Req.within 32 126 vl with
              | false =>
                rw [h4] at HOK hX
                have HF := Lib.hid (HBAD.out (by rw [HOK.out]; rfl))
                clear h4
                go_wp2_with fail
                refine (hT _).mono ?_
                rintro e w4 ⟨rfl, rfl⟩
                go_wp2_with fail
                refine (hX _).mono ?_
                rintro e w5 ⟨rfl, rfl⟩
                go_wp2
                go_ret
                exact ⟨ret_bool (HRT.out.trans HF.out).symm, hbw3⟩
              | true =>
                rw [h4] at HOK hX
                clear h4
                cases h5 : Req.alike nm Req.cl with
                | true =>
                  rw [h5] at HOK hAl
                  have HF := Lib.hid (HBAD.out (by rw [HOK.out]; rfl))
                  clear h5
                  go_wp2_with fail
                  refine (hT _).mono ?_
                  rintro e w4 ⟨rfl, rfl⟩
                  go_wp2_with fail
                  refine (hX _).mono ?_
                  rintro e w5 ⟨rfl, rfl⟩
                  go_wp2_with fail
                  refine (hAl _).mono ?_
                  rintro e w6 ⟨rfl, rfl⟩
                  go_wp2
                  go_ret
                  exact ⟨ret_bool (HRT.out.trans HF.out).symm, hbw3⟩
                | false =>
                  rw [h5] at HOK hAl
                  clear h5
                  have HOK2 := Lib.hid (show o = Rsp.endsOk vl by rw [HOK.out]; rfl)
                  go_wp2_with fail
                  refine (hT _).mono ?_
                  rintro e w4 ⟨rfl, rfl⟩
                  go_wp2_with fail
                  refine (hX _).mono ?_
                  rintro e w5 ⟨rfl, rfl⟩
                  go_wp2_with fail
                  refine (hAl _).mono ?_
                  rintro e w6 ⟨rfl, rfl⟩
                  clear hT hX hAl e0
                  by_cases hn0 : 0 < v.size
                  · have hv0 : (0 : Int) < (v.size : Int) := by omega
                    have hv1 : (v.size : Int) - 1 < (v.size : Int) := by omega
                    have hv2 : (0 : Int) ≤ (v.size : Int) - 1 := by omega
                    have hvn : ((v.size : Int) - 1).toNat = v.size - 1 := by omega
                    have HEN := Lib.hid (show Rsp.endsOk vl = (!(v[0] == 32) && !(v[v.size - 1] == 32)) by
                      unfold Rsp.endsOk
                      rw [← HVS.out, head_eq hn0, last_eq hn0]
                      simp)
                    by_cases g1 : v[0] = 32
                    · have k1 : ((v[0].toNat : Int) == 32) = true := by rw [g1]; rfl
                      have HF := Lib.hid (HBAD.out (by rw [HOK2.out, HEN.out, g1]; rfl))
                      clear g1
                      go_wp2
                      go_ret
                      exact ⟨ret_bool (HRT.out.trans HF.out).symm, hbw3⟩
                    · have k1 := u8_ne (n := 32) 32 rfl g1
                      by_cases g2 : v[v.size - 1] = 32
                      · have k2 : ((v[v.size - 1].toNat : Int) == 32) = true := by rw [g2]; rfl
                        have HF := Lib.hid (HBAD.out (by rw [HOK2.out, HEN.out, g2]; simp))
                        clear g1 g2
                        go_wp2
                        go_ret
                        exact ⟨ret_bool (HRT.out.trans HF.out).symm, hbw3⟩
                      · have k2 := u8_ne (n := 32) 32 rfl g2
                        have HT := Lib.hid (HGO.out (by rw [HOK2.out, HEN.out]; simp [g1, g2]))
                        clear g1 g2
                        go_wp2
                        go_roundw
                        case rel => exact ⟨k + 1, by omega, by go_num, HT.out, hb3⟩
                        case measure => simp [intOf]; omega
                  · have HT := Lib.hid (HGO.out (by rw [HOK2.out, ← HVS.out, ends_nil hn0]))
                    have hv0 : ¬ (0 : Int) < (v.size : Int) := by omega
                    go_wp2
                    go_roundw
                    case rel => exact ⟨k + 1, by omega, by go_num, HT.out, hb3⟩
                    case measure => simp [intOf]; omega
          · have HT := Lib.hid (show l.all Rsp.hdrOk2 = true from List.all_eq_true.2 fun q hq' => by
              obtain ⟨j, hj, rfl⟩ := List.getElem_of_mem hq'
              exact HALL.out j hj (by omega))
            go_wp2
            go_ret
            exact ⟨ret_bool (HRT.out.trans HT.out).symm, hbw⟩
      · have i1 : ¬ ((l.length : Int) > 32) := by omega
        have i2 : (n : Int) > 8192 := by omega
        have HF := Lib.hid (show Rsp.right s l b = false by rw [HV.out, decide_eq_false h2]; simp)
        go_wp2_with fail
        refine (hR _).mono ?_
        rintro e w1 ⟨rfl, rfl⟩
        go_wp2
        go_ret
        exact ⟨by rw [HF.out]; rfl, hb0⟩
    · have i1 : (l.length : Int) > 32 := by omega
      have HF := Lib.hid (show Rsp.right s l b = false by rw [HV.out, decide_eq_false h1]; simp)
      go_wp2_with fail
      refine (hR _).mono ?_
      rintro e w1 ⟨rfl, rfl⟩
      go_wp2
      go_ret
      exact ⟨by rw [HF.out]; rfl, hb0⟩
end Go.Proofs.YtehgigfngelkjaaDoor
