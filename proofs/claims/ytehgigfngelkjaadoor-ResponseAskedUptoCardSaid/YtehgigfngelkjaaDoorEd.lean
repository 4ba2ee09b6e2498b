/- What package response's Right answers, for any response with texts of at most 2^30 bytes. -/
import Derived.Test.YtehgigfngelkjaaDoorEc
namespace Go.Proofs.YtehgigfngelkjaaDoor
set_option maxRecDepth 8000
open Go.RowKit

theorem alike_to (a b : List UInt8) (w : World) (hs : a.length ≤ 1073741824) :
    Calls Tryd.prog 36 #[.string (S a), .string (S b)] w fun e w' => e = .returned (.bool (Req.alike a b)) ∧ Below w.heap.size w w' :=
  (alike_any a b w hs).mono fun _ _ ⟨h1, h2⟩ => ⟨h1, below_of_drewN h2⟩

set_option maxHeartbeats 1600000 in
theorem right_any (s : Int) (A : Option Addr) (cap : Nat) (l : List Pct.PairL) (b : List UInt8) (w : World) (hs : (Lit.int .i64 s).wf = true) (hl : PCells w w.heap.size A l) (hq : ∀ k (h : k < l.length), l[k].1.length ≤ 1073741824 ∧ l[k].2.length ≤ 1073741824) :
    Calls Tryd.prog 13 #[rspV s (.slice A l.length cap) b] w fun e w' => e = .returned (.bool (Rsp.right s l b)) ∧ Below w.heap.size w w' := by
  cases ht : Rsp.top s l b with
  | false =>
    refine (right_top s A cap l b w hs ht).mono fun e w' ⟨h1, h2⟩ => ⟨?_, h2⟩
    rw [h1]; unfold Rsp.right; rw [ht, Bool.false_and]
  | true =>
    have HRT := Lib.hid (show Rsp.right s l b = l.all Rsp.hdrOk by unfold Rsp.right; rw [ht, Bool.true_and])
    have hE := S_empty (Rsp.reason s)
    have hR := fun w' => reason_to s w' hs
    unfold Rsp.top at ht
    obtain ⟨x, hx⟩ : ∃ x, x = Rsp.reason s := ⟨_, rfl⟩
    rw [← hx] at ht hE hR
    clear hx
    have hz : (S b).size = b.length := rfl
    obtain ⟨n, hn⟩ : ∃ n, n = b.length := ⟨_, rfl⟩
    rw [← hn] at ht hz
    clear hn
    simp only [Bool.and_eq_true, decide_eq_true_eq, Bool.not_eq_true'] at ht
    obtain ⟨⟨h0, h1⟩, h2⟩ := ht
    rw [h0] at hE
    have i1 : ¬ ((l.length : Int) > 32) := by omega
    have i2 : ¬ ((n : Int) > 8192) := by omega
    unfold rspV
    go_enter Tryd.func13, Tryd.ntmps13
    go_wp2_with fail
    refine (hR _).mono ?_
    rintro e w1 ⟨rfl, hb1⟩
    have hb2 : Below w.heap.size w w1 := ((Below.refl w.heap.size w).alloc (Nat.le_refl _) _).trans (hb1.mono (by simp))
    have B := (BlkP.new w s (.slice A l.length cap) b).below hb1 (by simp)
    have d1 := B.c1
    have d2 := B.c2
    clear hb1 B
    go_wp2
    go_loopw [24] (fun i wr => ∃ k : Nat, k ≤ l.length ∧ i = .int .i64 k ∧ (∀ j (hj : j < l.length), j < k → Rsp.hdrOk l[j] = true) ∧ Below w.heap.size w wr) (fun i _ => l.length - (intOf i).toNat)
    case atStart => exact ⟨0, Nat.zero_le _, rfl, fun j _ hj => absurd hj (by omega), hb2⟩
    case round =>
      obtain ⟨k, hk, rfl, hall, hb⟩ := hrel
      have HALL := Lib.hid hall
      clear hall
      by_cases hlt : k < l.length
      · obtain ⟨ab, off, rfl, hbb, hcl⟩ := hl (by omega)
        obtain ⟨c0', c1'⟩ := hcl k hlt
        obtain ⟨hq1, hq2⟩ := hq k hlt
        clear hcl hq
        have HOK := Lib.hid (show Rsp.hdrOk l[k] = (Ck.token l[k].1 && Req.isText l[k].2 && !Req.alike l[k].1 Rsp.lenName) from rfl)
        have HBAD := Lib.hid (show Rsp.hdrOk l[k] = false → l.all Rsp.hdrOk = false from fun e => List.all_eq_false.2 ⟨l[k], List.getElem_mem hlt, by rw [e]; simp⟩)
        have HGO := Lib.hid (show Rsp.hdrOk l[k] = true → ∀ j (hj : j < l.length), j < k + 1 → Rsp.hdrOk l[j] = true from fun e j hj hjk => by
          by_cases e' : j = k
          · subst e'; exact e
          · exact HALL.out j hj (by omega))
        have hT := fun w' => isToken_any l[k].1 w' hq1
        have hX := fun w' => isText_any l[k].2 w' hq2
        have hA : ∀ w' : World, Calls Tryd.prog 36 #[.string (S l[k].1), .string ⟨#[67, 111, 110, 116, 101, 110, 116, 45, 76, 101, 110, 103, 116, 104]⟩] w' fun e w'' => e = .returned (.bool (Req.alike l[k].1 Rsp.lenName)) ∧ Below w'.heap.size w' w'' := fun w' => alike_to l[k].1 Rsp.lenName w' hq1
        obtain ⟨o, ho⟩ : ∃ o, o = Rsp.hdrOk l[k] := ⟨_, rfl⟩
        rw [← ho] at HOK HBAD HGO
        clear ho hq1 hq2
        obtain ⟨nm, hnm⟩ : ∃ nm, nm = l[k].1 := ⟨_, rfl⟩
        obtain ⟨v, hv⟩ : ∃ v, v = l[k].2 := ⟨_, rfl⟩
        rw [← hnm] at c0' hT hA HOK
        rw [← hv] at c1' hX HOK
        clear hnm hv
        have c0 : wr.cell? ⟨ab, off + k * 2, none⟩ = some (.string (S nm)) := (hb.cell (p := ⟨ab, off + k * 2, none⟩) hbb).trans c0'
        have c1 : wr.cell? ⟨ab, off + k * 2 + 1, none⟩ = some (.string (S v)) := (hb.cell (p := ⟨ab, off + k * 2 + 1, none⟩) hbb).trans c1'
        clear c0' c1'
        have j0 : (0 : Int) ≤ (k : Int) := by omega
        have j1 : (k : Int) < (l.length : Int) := by omega
        cases h3 : Ck.token nm with
        | false =>
          rw [h3] at HOK hT
          have HF := Lib.hid (HBAD.out (by rw [HOK.out]; rfl))
          clear h3
          go_wp2_with fail
          refine (hT _).mono ?_
          rintro e w3 ⟨rfl, hb3⟩
          have hb4 : Below w.heap.size w w3 := (hb.alloc hb.size _).trans (hb3.mono (by have := hb.size; simp; omega))
          clear hb3
          go_wp2
          go_ret
          exact ⟨ret_bool (HRT.out.trans HF.out).symm, hb4⟩
        | true =>
          rw [h3] at HOK hT
          clear h3
          cases h4 : Req.isText v with
          | false =>
            rw [h4] at HOK hX
            have HF := Lib.hid (HBAD.out (by rw [HOK.out]; rfl))
            clear h4
            go_wp2_with fail
            refine (hT _).mono ?_
            rintro e w3 ⟨rfl, hb3⟩
            have hb4 : Below w.heap.size w w3 := (hb.alloc hb.size _).trans (hb3.mono (by have := hb.size; simp; omega))
            have e1 := ((Blk2.new wr (S nm) (S v)).below hb3 (by simp)).cell1
            clear hb3
            go_wp2_with fail
            refine (hX _).mono ?_
            rintro e w4 ⟨rfl, hb5⟩
            have hb6 : Below w.heap.size w w4 := hb4.trans (hb5.mono hb4.size)
            clear hb5
            go_wp2
            go_ret
            exact ⟨ret_bool (HRT.out.trans HF.out).symm, hb6⟩
          | true =>
            rw [h4] at HOK hX
            clear h4
            cases h5 : Req.alike nm Rsp.lenName with
            | true =>
              rw [h5] at HOK hA
              have HF := Lib.hid (HBAD.out (by rw [HOK.out]; rfl))
              clear h5
              go_wp2_with fail
              refine (hT _).mono ?_
              rintro e w3 ⟨rfl, hb3⟩
              have hb4 : Below w.heap.size w w3 := (hb.alloc hb.size _).trans (hb3.mono (by have := hb.size; simp; omega))
              have B2 := (Blk2.new wr (S nm) (S v)).below hb3 (by simp)
              have e1 := B2.cell1
              have hlt2 : wr.heap.size < w3.heap.size := by have := hb3.size; simp at this; omega
              clear hb3
              go_wp2_with fail
              refine (hX _).mono ?_
              rintro e w4 ⟨rfl, hb5⟩
              have hb6 : Below w.heap.size w w4 := hb4.trans (hb5.mono hb4.size)
              have e0 := (B2.below hb5 hlt2).cell0
              clear hb5
              go_wp2_with fail
              refine (hA _).mono ?_
              rintro e w5 ⟨rfl, hb7⟩
              have hb8 : Below w.heap.size w w5 := hb6.trans (hb7.mono hb6.size)
              clear hb7
              go_wp2
              go_ret
              exact ⟨ret_bool (HRT.out.trans HF.out).symm, hb8⟩
            | false =>
              rw [h5] at HOK hA
              have HT := Lib.hid (HGO.out (by rw [HOK.out]; rfl))
              clear h5
              go_wp2_with fail
              refine (hT _).mono ?_
              rintro e w3 ⟨rfl, hb3⟩
              have hb4 : Below w.heap.size w w3 := (hb.alloc hb.size _).trans (hb3.mono (by have := hb.size; simp; omega))
              have B2 := (Blk2.new wr (S nm) (S v)).below hb3 (by simp)
              have e1 := B2.cell1
              have hlt2 : wr.heap.size < w3.heap.size := by have := hb3.size; simp at this; omega
              clear hb3
              go_wp2_with fail
              refine (hX _).mono ?_
              rintro e w4 ⟨rfl, hb5⟩
              have hb6 : Below w.heap.size w w4 := hb4.trans (hb5.mono hb4.size)
              have e0 := (B2.below hb5 hlt2).cell0
              clear hb5
              go_wp2_with fail
              refine (hA _).mono ?_
              rintro e w5 ⟨rfl, hb7⟩
              have hb8 : Below w.heap.size w w5 := hb6.trans (hb7.mono hb6.size)
              clear hb7
              go_wp2
              go_roundw
              case rel => exact ⟨k + 1, by omega, by go_num, HT.out, hb8⟩
              case measure => simp [intOf]; omega
      · have HT := Lib.hid (show l.all Rsp.hdrOk = true from List.all_eq_true.2 fun q hq' => by
          obtain ⟨j, hj, rfl⟩ := List.getElem_of_mem hq'
          exact HALL.out j hj (by omega))
        go_wp2
        go_ret
        exact ⟨ret_bool (HRT.out.trans HT.out).symm, hb⟩
end Go.Proofs.YtehgigfngelkjaaDoor
