/- The statement ResponseBack answers true, for any response and any text, where the variables of the library that it reaches read as their texts lay them. -/
import Derived.Test.YtehgigfngelkjaaDoorEp
namespace Go.Proofs.YtehgigfngelkjaaDoor
set_option maxRecDepth 8000
open Go.RowKit

theorem known_wf {s : Int} (h : (Rsp.reason s).isEmpty = false) : (Lit.int .i64 s).wf = true := by
  rcases Rsp.reason_known h with rfl | rfl | rfl | rfl | rfl | rfl | rfl <;> decide
theorem read_mem {t : List UInt8} {s : Int} {l : List Pct.PairL} {b : List UInt8} (h : Rsp.read t = some (s, l, b)) {q : Pct.PairL} (hq : q ∈ l) : q.1.length ≤ t.length ∧ q.2.length ≤ t.length := by
  unfold Rsp.read at h
  split at h
  · simp only [Option.some.injEq, Prod.mk.injEq] at h
    obtain ⟨h1, h2, h3⟩ := h
    rw [← h2] at hq
    exact Rsp.guessL_mem hq
  · cases h
theorem hds_len60 : ∀ (l : List Pct.PairL), (∀ q ∈ l, q.1.length ≤ 100 ∧ q.2.length ≤ 100) → (Rsp.hds l).length ≤ 204 * l.length
  | [], _ => by simp [Rsp.hds]
  | q :: r, h => by
    have ih := hds_len60 r (fun x hx => h x (List.mem_cons_of_mem _ hx))
    have h1 := h q (List.mem_cons_self ..)
    have e : Rsp.hds (q :: r) = Rsp.hd q ++ Rsp.hds r := rfl
    rw [e, List.length_append]
    unfold Rsp.hd
    simp only [List.length_append, List.length_cons, List.length_nil]
    omega
theorem write_small {s : Int} {l : List Pct.PairL} {b : List UInt8} (hf : fewR l b = true) (hr : Rsp.right s l b = true) : (Rsp.write s l b).length ≤ 20000 := by
  obtain ⟨h1, h2⟩ := fewR_is hf
  obtain ⟨p0, p1, p2, p3, p4⟩ := right_parts hr
  have hd := dec_len (b.length : Int) (by omega)
  have hd2 := dec_len s (by omega)
  have hd' : (Lib.decDigits b.length).length ≤ 100 := hd
  have h3 := hds_len60 (Rsp.all l b) (by
    intro q hq
    unfold Rsp.all at hq
    rcases List.mem_append.1 hq with hq | hq
    · obtain ⟨k, hk, rfl⟩ := List.getElem_of_mem hq
      have := h1 k hk
      exact ⟨by omega, by omega⟩
    · rw [List.mem_singleton] at hq
      subst hq
      exact ⟨by show Rsp.lenName.length ≤ 100; decide, hd'⟩)
  have h4 : (Rsp.all l b).length = l.length + 1 := by simp [Rsp.all]
  unfold Rsp.write Rsp.first
  simp only [List.length_append, List.length_cons, List.length_nil]
  omega

set_option maxHeartbeats 3200000 in
theorem back_wrong (s : Int) (A : Option Addr) (cap : Nat) (l : List Pct.PairL) (b t : List UInt8) (W : World) (he : EnvE W) (hs : (Lit.int .i64 s).wf = true) (hl : PCells W W.heap.size A l) (hm : l.length ≤ 9223372036854775807) (hcap : l.length ≤ cap) (hnil : A = none → cap = 0) (RIGHT : Rsp.right s l b = false) :
    Calls Tryd.prog 5 #[rspV s (.slice A l.length cap) b, .string (S t)] W (AwakePost W) := by
  have htz : (S t).size = t.length := rfl
  unfold rspV
  go_enter Tryd.func5, Tryd.ntmps5
  go_upto_region 1 with fail
  have B0 : BlkR (W.alloc (.cells #[.int .i64 s, .slice A l.length cap, .string (S b)] 24)) W.heap.size (.int .i64 s) (.slice A l.length cap) (.string (S b)) := heap_alloc_new W _
  have hb0 : Below W.heap.size W (W.alloc (.cells #[.int .i64 s, .slice A l.length cap, .string (S b)] 24)) := (Below.refl _ _).alloc (Nat.le_refl _) _
  have hs0 : W.heap.size < (W.alloc (.cells #[.int .i64 s, .slice A l.length cap, .string (S b)] 24)).heap.size := by simp
  have hp0 := hl.next hb0
  generalize (W.alloc (.cells #[.int .i64 s, .slice A l.length cap, .string (S b)] 24)) = W0 at B0 hb0 hs0 hp0 ⊢
  have HR := Lib.hid (fun w' (h : Below W0.heap.size W0 w') => (show BlkR w' W.heap.size (.int .i64 s) (.slice A l.length cap) (.string (S b)) from (h.block _ hs0).trans B0))
  have HP := Lib.hid (fun w' (h : Below W0.heap.size W0 w') => hp0.next h)
  have HE := Lib.hid (show ∀ w', Below W0.heap.size W0 w' → EnvE w' from fun w' h => he.next (hb0.trans (h.mono (Nat.le_of_lt hs0))))
  have HEND := Lib.hid (show ∀ w', Below W0.heap.size W0 w' → AwakePost W (.returned (.bool true)) w' from fun w' h => ⟨rfl, hb0.trans (h.mono (Nat.le_of_lt hs0))⟩)
  have HWQ := Lib.hid (show ∀ w', Below W0.heap.size W0 w' → Wr w' (.slice A l.length cap) l from fun w' h => ⟨A, cap, rfl, hp0.next h, hcap, hnil⟩)
  clear B0 hb0 hp0 he hl hcap hnil
  go_wp2_with fail
  refine (awake_any W0 (HE.out _ (Below.refl _ _)).env).mono ?_
  rintro e w1 ⟨rfl, hb1⟩
  have r0 := (HR.out _ hb1).c0
  have r1 := (HR.out _ hb1).c1
  have r2 := (HR.out _ hb1).c2
  go_wp2_with fail
  refine (refFew_any s A cap l b w1 (HP.out _ hb1) hm).mono ?_
  rintro e w2 ⟨rfl, hbx⟩
  have hb2 : Below W0.heap.size W0 w2 := hb1.trans (hbx.mono hb1.size)
  clear r0 r1 r2 hbx hb1
  cases hfc : fewR l b with
  | false =>
    clear hfc
    go_wp2
    go_ret
    exact HEND.out _ hb2
  | true =>
    by_cases h4 : t.length ≤ 700
    · have HF := Lib.hid (fewR_is hfc)
      have HWS := Lib.hid (fun h => write_small (s := s) hfc h)
      have HQ := Lib.hid (show ∀ k (h : k < l.length), l[k].1.length ≤ 1073741824 ∧ l[k].2.length ≤ 1073741824 from fun k hk => by have := HF.out.1 k hk; exact ⟨by omega, by omega⟩)
      have hl50 : l.length ≤ 1099511627776 := by have := HF.out.2; omega
      clear hfc
      have r0 := (HR.out _ hb2).c0
      have r1 := (HR.out _ hb2).c1
      have r2 := (HR.out _ hb2).c2
      have hW2 := write_to s _ l b w2 (HE.out _ hb2).env hs (HWQ.out _ hb2) HQ.out
      have hres : writeRes s l b = .tuple #[.string ⟨#[]⟩, .int .i64 1] := by unfold writeRes; rw [RIGHT, if_neg (by decide)]
      rw [hres] at hW2
      clear hres
      clear HWS
      go_wp2_with fail
      refine hW2.mono ?_
      rintro e w3 ⟨rfl, hbx⟩
      have hb3 : Below W0.heap.size W0 w3 := hb2.trans (hbx.mono hb2.size)
      clear r0 r1 r2 hbx hb2 hW2
      have r0 := (HR.out _ hb3).c0
      have r1 := (HR.out _ hb3).c1
      have r2 := (HR.out _ hb3).c2
      have hRt := right_any s A cap l b w3 hs (HP.out _ hb3) HQ.out
      rw [RIGHT] at hRt
      go_wp2_with fail
      refine hRt.mono ?_
      rintro e w4 ⟨rfl, hbx⟩
      have hb_w4 : Below W0.heap.size W0 w4 := hb3.trans (hbx.mono hb3.size)
      clear r0 r1 r2 hbx hb3 hRt
      have hRd := read_any t w4 (HE.out _ hb_w4) (by omega)
      go_wp2_with fail
      refine hRd.mono ?_
      rintro e wr ⟨st, vx, xl, xb, n, rfl, hwr, hbx, hcase⟩
      have hbr : Below W0.heap.size W0 wr := hb_w4.trans (hbx.mono hb_w4.size)
      obtain ⟨Ax, capx, rfl, hcx, hx1, hx2⟩ := hwr.form
      clear hbx hb_w4 hRd
      go_upto_region 14 with fail
      have CX : BlkR (wr.alloc (.cells #[.int .i64 st, .slice Ax xl.length capx, .string (S xb)] 24)) wr.heap.size (.int .i64 st) (.slice Ax xl.length capx) (.string (S xb)) := heap_alloc_new wr _
      have hby : Below wr.heap.size wr (wr.alloc (.cells #[.int .i64 st, .slice Ax xl.length capx, .string (S xb)] 24)) := (Below.refl _ _).alloc (Nat.le_refl _) _
      generalize (wr.alloc (.cells #[.int .i64 st, .slice Ax xl.length capx, .string (S xb)] 24)) = wy at CX hby ⊢
      have hwy := hwr.next hby
      have hby2 : Below W0.heap.size W0 wy := hbr.trans (hby.mono hbr.size)
      have x0 := CX.c0
      have x1 := CX.c1
      have x2 := CX.c2
      clear CX hby hbr hwr hcx
      rcases hcase with ⟨rfl, hrd⟩ | ⟨rfl, hrd, rfl, rfl, rfl⟩
      · obtain ⟨hr2, hw2⟩ := Rsp.read_some hrd
        have hres2 : writeRes st xl xb = .tuple #[.string (S t), .int .i64 0] := by unfold writeRes; rw [if_pos hr2, hw2]
        have hst : (Lit.int .i64 st).wf = true := known_wf (Rsp.right_all hr2).1
        have hqx : ∀ k (h : k < xl.length), xl[k].1.length ≤ 1073741824 ∧ xl[k].2.length ≤ 1073741824 := by
          intro k hk
          have := read_mem hrd (List.getElem_mem hk)
          exact ⟨by omega, by omega⟩
        have hWr := write_to st _ xl xb wy (HE.out _ hby2).env hst hwy hqx
        rw [hres2] at hWr
        clear hrd hr2 hw2 hres2 hst hqx
        go_wp2_with fail
        refine hWr.mono ?_
        rintro e wz ⟨rfl, hbz⟩
        have hbz2 : Below W0.heap.size W0 wz := hby2.trans (hbz.mono hby2.size)
        go_wp2
        go_ret
        exact HEND.out _ hbz2
      · have hSm := same_any 0 _ [] [] 0 _ [] [] wy hwy (wr_nil wy) (by simp)
        rw [show sameR 0 [] [] 0 [] [] = true from by decide] at hSm
        clear hrd
        go_wp2_with fail
        refine hSm.mono ?_
        rintro e wz ⟨rfl, hbz⟩
        have hbz2 : Below W0.heap.size W0 wz := hby2.trans (hbz.mono hby2.size)
        go_wp2
        go_ret
        exact HEND.out _ hbz2
    · clear hfc
      go_wp2
      go_ret
      exact HEND.out _ hb2

set_option maxHeartbeats 3200000 in
theorem back_right (s : Int) (A : Option Addr) (cap : Nat) (l : List Pct.PairL) (b t : List UInt8) (W : World) (he : EnvE W) (hs : (Lit.int .i64 s).wf = true) (hl : PCells W W.heap.size A l) (hm : l.length ≤ 9223372036854775807) (hcap : l.length ≤ cap) (hnil : A = none → cap = 0) (RIGHT : Rsp.right s l b = true) :
    Calls Tryd.prog 5 #[rspV s (.slice A l.length cap) b, .string (S t)] W (AwakePost W) := by
  have htz : (S t).size = t.length := rfl
  unfold rspV
  go_enter Tryd.func5, Tryd.ntmps5
  go_upto_region 1 with fail
  have B0 : BlkR (W.alloc (.cells #[.int .i64 s, .slice A l.length cap, .string (S b)] 24)) W.heap.size (.int .i64 s) (.slice A l.length cap) (.string (S b)) := heap_alloc_new W _
  have hb0 : Below W.heap.size W (W.alloc (.cells #[.int .i64 s, .slice A l.length cap, .string (S b)] 24)) := (Below.refl _ _).alloc (Nat.le_refl _) _
  have hs0 : W.heap.size < (W.alloc (.cells #[.int .i64 s, .slice A l.length cap, .string (S b)] 24)).heap.size := by simp
  have hp0 := hl.next hb0
  generalize (W.alloc (.cells #[.int .i64 s, .slice A l.length cap, .string (S b)] 24)) = W0 at B0 hb0 hs0 hp0 ⊢
  have HR := Lib.hid (fun w' (h : Below W0.heap.size W0 w') => (show BlkR w' W.heap.size (.int .i64 s) (.slice A l.length cap) (.string (S b)) from (h.block _ hs0).trans B0))
  have HP := Lib.hid (fun w' (h : Below W0.heap.size W0 w') => hp0.next h)
  have HE := Lib.hid (show ∀ w', Below W0.heap.size W0 w' → EnvE w' from fun w' h => he.next (hb0.trans (h.mono (Nat.le_of_lt hs0))))
  have HEND := Lib.hid (show ∀ w', Below W0.heap.size W0 w' → AwakePost W (.returned (.bool true)) w' from fun w' h => ⟨rfl, hb0.trans (h.mono (Nat.le_of_lt hs0))⟩)
  have HWQ := Lib.hid (show ∀ w', Below W0.heap.size W0 w' → Wr w' (.slice A l.length cap) l from fun w' h => ⟨A, cap, rfl, hp0.next h, hcap, hnil⟩)
  clear B0 hb0 hp0 he hl hcap hnil
  go_wp2_with fail
  refine (awake_any W0 (HE.out _ (Below.refl _ _)).env).mono ?_
  rintro e w1 ⟨rfl, hb1⟩
  have r0 := (HR.out _ hb1).c0
  have r1 := (HR.out _ hb1).c1
  have r2 := (HR.out _ hb1).c2
  go_wp2_with fail
  refine (refFew_any s A cap l b w1 (HP.out _ hb1) hm).mono ?_
  rintro e w2 ⟨rfl, hbx⟩
  have hb2 : Below W0.heap.size W0 w2 := hb1.trans (hbx.mono hb1.size)
  clear r0 r1 r2 hbx hb1
  cases hfc : fewR l b with
  | false =>
    clear hfc
    go_wp2
    go_ret
    exact HEND.out _ hb2
  | true =>
    by_cases h4 : t.length ≤ 700
    · have HF := Lib.hid (fewR_is hfc)
      have HWS := Lib.hid (fun h => write_small (s := s) hfc h)
      have HQ := Lib.hid (show ∀ k (h : k < l.length), l[k].1.length ≤ 1073741824 ∧ l[k].2.length ≤ 1073741824 from fun k hk => by have := HF.out.1 k hk; exact ⟨by omega, by omega⟩)
      have hl50 : l.length ≤ 1099511627776 := by have := HF.out.2; omega
      clear hfc
      have r0 := (HR.out _ hb2).c0
      have r1 := (HR.out _ hb2).c1
      have r2 := (HR.out _ hb2).c2
      have hW2 := write_to s _ l b w2 (HE.out _ hb2).env hs (HWQ.out _ hb2) HQ.out
      have hres : writeRes s l b = .tuple #[.string (S (Rsp.write s l b)), .int .i64 0] := by unfold writeRes; rw [if_pos RIGHT]
      rw [hres] at hW2
      clear hres
      have HYR := Lib.hid (Rsp.read_write RIGHT)
      have hyl := HWS.out RIGHT
      generalize Rsp.write s l b = y at hW2 HYR hyl
      have hyl : y.length ≤ 1073741824 := by omega
      clear HWS
      go_wp2_with fail
      refine hW2.mono ?_
      rintro e w3 ⟨rfl, hbx⟩
      have hb3 : Below W0.heap.size W0 w3 := hb2.trans (hbx.mono hb2.size)
      clear r0 r1 r2 hbx hb2 hW2
      have r0 := (HR.out _ hb3).c0
      have r1 := (HR.out _ hb3).c1
      have r2 := (HR.out _ hb3).c2
      have hRt := right_any s A cap l b w3 hs (HP.out _ hb3) HQ.out
      rw [RIGHT] at hRt
      go_wp2_with fail
      refine hRt.mono ?_
      rintro e w4 ⟨rfl, hbx⟩
      have hb_w4 : Below W0.heap.size W0 w4 := hb3.trans (hbx.mono hb3.size)
      clear r0 r1 r2 hbx hb3 hRt
      have hRd := read_any y w4 (HE.out _ hb_w4) hyl
      go_wp2_with fail
      refine hRd.mono ?_
      rintro e w5 ⟨st, vx, xl, xb, n, rfl, hwr, hbx, hcase⟩
      have hcs : n = 0 ∧ st = s ∧ xl = l ∧ xb = b := by
        rcases hcase with ⟨h1, h2⟩ | ⟨_, h2, _⟩
        · rw [HYR.out] at h2
          simp only [Option.some.injEq, Prod.mk.injEq] at h2
          exact ⟨h1, h2.1.symm, h2.2.1.symm, h2.2.2.symm⟩
        · rw [HYR.out] at h2
          cases h2
      obtain ⟨rfl, rfl, rfl, rfl⟩ := hcs
      have hbr : Below W0.heap.size W0 w5 := hb_w4.trans (hbx.mono hb_w4.size)
      obtain ⟨Ax, capx, rfl, hcx, hx1, hx2⟩ := hwr.form
      clear hbx hb_w4 hRd hcase HYR
      go_upto_region 11 with fail
      have CX : BlkR (w5.alloc (.cells #[.int .i64 st, .slice Ax xl.length capx, .string (S xb)] 24)) w5.heap.size (.int .i64 st) (.slice Ax xl.length capx) (.string (S xb)) := heap_alloc_new w5 _
      have hby : Below w5.heap.size w5 (w5.alloc (.cells #[.int .i64 st, .slice Ax xl.length capx, .string (S xb)] 24)) := (Below.refl _ _).alloc (Nat.le_refl _) _
      generalize (w5.alloc (.cells #[.int .i64 st, .slice Ax xl.length capx, .string (S xb)] 24)) = w6 at CX hby ⊢
      have hwy := hwr.next hby
      have hb6 : Below W0.heap.size W0 w6 := hbr.trans (hby.mono hbr.size)
      have x0 := CX.c0
      have x1 := CX.c1
      have x2 := CX.c2
      have r0 := (HR.out _ hb6).c0
      have r1 := (HR.out _ hb6).c1
      have r2 := (HR.out _ hb6).c2
      have hSm := same_any st _ xl xb st _ xl xb w6 hwy (HWQ.out _ hb6) hl50
      rw [show sameR st xl xb st xl xb = true from sameR_is.2 rfl] at hSm
      clear CX hby hbr hwr hcx
      go_wp2_with fail
      refine hSm.mono ?_
      rintro e w7 ⟨rfl, hbx⟩
      have hb_w7 : Below W0.heap.size W0 w7 := hb6.trans (hbx.mono hb6.size)
      clear x0 x1 x2 r0 r1 r2 hSm hb6 hbx hwy hx1 hx2
      have hRd := read_any t w7 (HE.out _ hb_w7) (by omega)
      go_wp2_with fail
      refine hRd.mono ?_
      rintro e wr ⟨st, vx, xl, xb, n, rfl, hwr, hbx, hcase⟩
      have hbr : Below W0.heap.size W0 wr := hb_w7.trans (hbx.mono hb_w7.size)
      obtain ⟨Ax, capx, rfl, hcx, hx1, hx2⟩ := hwr.form
      clear hbx hb_w7 hRd
      go_upto_region 14 with fail
      have CX : BlkR (wr.alloc (.cells #[.int .i64 st, .slice Ax xl.length capx, .string (S xb)] 24)) wr.heap.size (.int .i64 st) (.slice Ax xl.length capx) (.string (S xb)) := heap_alloc_new wr _
      have hby : Below wr.heap.size wr (wr.alloc (.cells #[.int .i64 st, .slice Ax xl.length capx, .string (S xb)] 24)) := (Below.refl _ _).alloc (Nat.le_refl _) _
      generalize (wr.alloc (.cells #[.int .i64 st, .slice Ax xl.length capx, .string (S xb)] 24)) = wy at CX hby ⊢
      have hwy := hwr.next hby
      have hby2 : Below W0.heap.size W0 wy := hbr.trans (hby.mono hbr.size)
      have x0 := CX.c0
      have x1 := CX.c1
      have x2 := CX.c2
      clear CX hby hbr hwr hcx
      rcases hcase with ⟨rfl, hrd⟩ | ⟨rfl, hrd, rfl, rfl, rfl⟩
      · obtain ⟨hr2, hw2⟩ := Rsp.read_some hrd
        have hres2 : writeRes st xl xb = .tuple #[.string (S t), .int .i64 0] := by unfold writeRes; rw [if_pos hr2, hw2]
        have hst : (Lit.int .i64 st).wf = true := known_wf (Rsp.right_all hr2).1
        have hqx : ∀ k (h : k < xl.length), xl[k].1.length ≤ 1073741824 ∧ xl[k].2.length ≤ 1073741824 := by
          intro k hk
          have := read_mem hrd (List.getElem_mem hk)
          exact ⟨by omega, by omega⟩
        have hWr := write_to st _ xl xb wy (HE.out _ hby2).env hst hwy hqx
        rw [hres2] at hWr
        clear hrd hr2 hw2 hres2 hst hqx
        go_wp2_with fail
        refine hWr.mono ?_
        rintro e wz ⟨rfl, hbz⟩
        have hbz2 : Below W0.heap.size W0 wz := hby2.trans (hbz.mono hby2.size)
        go_wp2
        go_ret
        exact HEND.out _ hbz2
      · have hSm := same_any 0 _ [] [] 0 _ [] [] wy hwy (wr_nil wy) (by simp)
        rw [show sameR 0 [] [] 0 [] [] = true from by decide] at hSm
        clear hrd
        go_wp2_with fail
        refine hSm.mono ?_
        rintro e wz ⟨rfl, hbz⟩
        have hbz2 : Below W0.heap.size W0 wz := hby2.trans (hbz.mono hby2.size)
        go_wp2
        go_ret
        exact HEND.out _ hbz2
    · clear hfc
      go_wp2
      go_ret
      exact HEND.out _ hb2

theorem responseBack_any (s : Int) (A : Option Addr) (cap : Nat) (l : List Pct.PairL) (b : List UInt8) (t0 : ByteArray) (W : World) (he : EnvE W) (hs : (Lit.int .i64 s).wf = true) (hl : PCells W W.heap.size A l) (hm : l.length ≤ 9223372036854775807) (hcap : l.length ≤ cap) (hnil : A = none → cap = 0) :
    Calls Tryd.prog 5 #[rspV s (.slice A l.length cap) b, .string t0] W (AwakePost W) := by
  obtain ⟨t, rfl⟩ : ∃ t, t0 = S t := ⟨t0.data.toList, rfl⟩
  cases h : Rsp.right s l b with
  | true => exact back_right s A cap l b t W he hs hl hm hcap hnil h
  | false => exact back_wrong s A cap l b t W he hs hl hm hcap hnil h
end Go.Proofs.YtehgigfngelkjaaDoor
