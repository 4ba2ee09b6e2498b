/- What the statement RequestTells answers: true, for any request and any two texts, where the variables that it reaches read as their texts lay them. -/
import Derived.Test.YtbpeohadgplaaaaDoorRv
namespace Go.Proofs.YtbpeohadgplaaaaDoor
set_option maxRecDepth 8000
open Go.RowKit

def argsL (r : Except Nat (List Pct.PairL)) : List Pct.PairL := match r with | .ok l => l | .error _ => []
def argsN (r : Except Nat (List Pct.PairL)) : Int := match r with | .ok _ => 0 | .error n => (n : Int)
theorem argsP_len (m t b : List UInt8) : (argsL (argsP m t b)).length ≤ 64 := by
  unfold argsP
  cases hf : Pct.form (Pct.cutAt 63 t).2.1 with
  | error n => simp [argsL]
  | ok l =>
    have h1 := form_len hf
    by_cases hm : m = Req.post
    · simp only [if_pos hm]
      cases hg : Pct.form b with
      | error n => simp [argsL]
      | ok l2 =>
        have h2 := form_len hg
        by_cases hs : 32 < l.length + l2.length
        · simp only [if_pos hs]; simp [argsL]
        · simp only [if_neg hs]; simp [argsL]; omega
    · simp only [if_neg hm]
      simp only [argsL]
      omega
theorem reqArgs_two (m t : List UInt8) (A : Option Addr) (n cap : Nat) (b : List UInt8) (w : World) (hd : Digs w) (hs : t.length ≤ 1000) (hbl : b.length ≤ 1000) :
    Calls Tryd.prog 22 #[.agg #[.string (S m), .string (S t), .slice A n cap, .string (S b)]] w fun e w' => ∃ A' cap', e = .returned (.tuple #[.slice A' (argsL (argsP m t b)).length cap', .int .i64 (argsN (argsP m t b))]) ∧ PCells w' w'.heap.size A' (argsL (argsP m t b)) ∧ Below w.heap.size w w' :=
  (reqArgs_any m t A n cap b w hd (by omega) (by omega)).mono fun e w' hp => by
    cases h : argsP m t b with
    | error k =>
      rw [h] at hp
      exact ⟨none, 0, hp.1, fun h0 => absurd h0 (by simp [argsL]), hp.2⟩
    | ok l =>
      rw [h] at hp
      obtain ⟨v, he, hr, hb⟩ := hp
      obtain ⟨A', cap', rfl⟩ := hr.form
      exact ⟨A', cap', he, prow_pcells hr, hb⟩
theorem refArgs_two (m t : List UInt8) (A : Option Addr) (n cap : Nat) (b : List UInt8) (w : World) (hs : t.length ≤ 1000) (hbl : b.length ≤ 1000) :
    Calls Tryd.prog 23 #[.agg #[.string (S m), .string (S t), .slice A n cap, .string (S b)]] w fun e w' => ∃ A' cap', e = .returned (.tuple #[.slice A' (argsL (argsP m t b)).length cap', .int .i64 (argsN (argsP m t b))]) ∧ PCells w' w'.heap.size A' (argsL (argsP m t b)) ∧ Below w.heap.size w w' :=
  (refArgs_any m t A n cap b w hs hbl).mono fun e w' hp => by
    cases h : argsP m t b with
    | error k =>
      rw [h] at hp
      exact ⟨none, 0, hp.1, fun h0 => absurd h0 (by simp [argsL]), hp.2⟩
    | ok l =>
      rw [h] at hp
      obtain ⟨A', cap', he, hr, hb⟩ := hp
      exact ⟨A', cap', he, hr, hb⟩
theorem wrRes_two (r : Except Nat (List UInt8)) : ∃ (x : List UInt8) (n : Int), wrRes r = .returned (.tuple #[.string (S x), .int .i64 n]) := by
  cases r with
  | ok s => exact ⟨s, 0, rfl⟩
  | error n => exact ⟨[], n, rfl⟩
theorem pairs_self (A A' : Option Addr) (cap cap' : Nat) (l : List Pct.PairL) (w : World) (h : PCells w w.heap.size A l) (h' : PCells w w.heap.size A' l) (hb : l.length ≤ 64) :
    Calls Tryd.prog 29 #[.slice A l.length cap, .slice A' l.length cap'] w fun e w' => e = .returned (.bool true) ∧ Below w.heap.size w w' :=
  (pairs_any _ _ l l w ⟨A, cap, rfl, h⟩ ⟨A', cap', rfl, h'⟩ (by omega)).mono fun e w' ⟨h1, h2⟩ => ⟨by rw [h1, decide_eq_true rfl], below_of_drewN h2⟩

set_option maxHeartbeats 3200000 in
theorem tells_few (m t : List UInt8) (A : Option Addr) (cap : Nat) (l : List Pct.PairL) (b nm ot : List UInt8) (w : World) (he : EnvR w) (hl : PCells w w.heap.size A l) (hm : l.length ≤ 9223372036854775807) (hf : fewRB m t l b = true) (hn : nm.length ≤ 100) (ho : ot.length ≤ 100) :
    Calls Tryd.prog 5 #[.agg #[.string (S m), .string (S t), .slice A l.length cap, .string (S b)], .string (S nm), .string (S ot)] w (AwakePost w) := by
  have hn' : ¬ 100 < (S nm).size := by have : (S nm).size = nm.length := rfl; omega
  have ho' : ¬ 100 < (S ot).size := by have : (S ot).size = ot.length := rfl; omega
  have hfew := fewR_is hf
  have hmt : m.length + t.length ≤ 4000 ∧ t.length ≤ 1000 ∧ b.length ≤ 1000 := by
    unfold fewRB at hf
    simp only [Bool.and_eq_true, decide_eq_true_eq] at hf
    omega
  have hn50 := hfew.n
  have HQ := Lib.hid (show ∀ k (h : k < l.length), l[k].1.length ≤ 1073741824 from fun k h => by have := (hfew.q k h).1; omega)
  have h0 := HasR.new (m := m) (t := t) (b := b) (cap := cap) hl
  have hb0 := below_alloc w (.cells #[.string (S m), .string (S t), .slice A l.length cap, .string (S b)] 33)
  have he0 := he.next hb0
  -- the contracts, each with its answer under one name
  have HA1 := Lib.hid (fun w' h => reqWrite_any m t A cap l b w' h hfew)
  have HA2 := Lib.hid (fun w' he' h => refWriteR_any m t A cap l b w' he' h hfew hmt.1)
  obtain ⟨sx, sn, hwr⟩ := wrRes_two (Req.write ⟨m, t, l, b⟩)
  rw [hwr] at HA1 HA2
  have HA3 := Lib.hid (fun w' hd => reqArgs_two m t A l.length cap b w' hd hmt.2.1 hmt.2.2)
  have HA4 := Lib.hid (fun w' => refArgs_two m t A l.length cap b w' hmt.2.1 hmt.2.2)
  have hL := argsP_len m t b
  obtain ⟨L, hLL⟩ : ∃ L, L = argsL (argsP m t b) := ⟨_, rfl⟩
  obtain ⟨gn, hgn⟩ : ∃ gn, gn = argsN (argsP m t b) := ⟨_, rfl⟩
  rw [← hLL] at HA3 HA4 hL
  rw [← hgn] at HA3 HA4
  have HA5 := Lib.hid (fun w' h => reqHeader_any m t A cap l b nm w' h (by omega) HQ.out)
  have HA6 := Lib.hid (fun w' h => refHeader_any m t A cap l b nm w' h (by omega) HQ.out)
  obtain ⟨hx, hhx⟩ : ∃ x, x = Req.hdrV nm l := ⟨_, rfl⟩
  obtain ⟨hk, hhk⟩ : ∃ k : Int, k = (Req.hdrN nm l : Int) := ⟨_, rfl⟩
  rw [← hhx, ← hhk] at HA5 HA6
  have HA7 := Lib.hid (fun w' => refPath_any m t A l.length cap b w' (by omega))
  have HA8 := Lib.hid (fun w' => reqPath_any m t A l.length cap b w' (by omega))
  obtain ⟨px, hpx⟩ : ∃ x, x = (Pct.cutAt 63 t).1 := ⟨_, rfl⟩
  obtain ⟨py, hpy⟩ : ∃ x, x = (Pct.cutAt 63 t).2.1 := ⟨_, rfl⟩
  rw [← hpx, ← hpy] at HA7
  rw [← hpx] at HA8
  have HA9 := Lib.hid (fun w' h => right_any m t A cap l b w' h hfew)
  have HA10 := Lib.hid (fun w' he' h => refRight_any m t A cap l b w' he' h hfew hmt.1)
  obtain ⟨ro, hro⟩ : ∃ o, o = Req.right ⟨m, t, l, b⟩ := ⟨_, rfl⟩
  rw [← hro] at HA9 HA10
  have HA11 := Lib.hid (fun w' : World => (alike_any nm ot w' (by omega)).mono (P := Tryd.prog) fun e w'' h => (⟨h.1, below_of_drewN h.2⟩ : e = .returned (.bool (Req.alike nm ot)) ∧ Below w'.heap.size w' w''))
  have HA12 := Lib.hid (fun w' : World => (refAlike_to nm ot (Req.alike nm ot) w' (by omega) rfl).mono (P := Tryd.prog) fun e w'' h => (⟨h.1, by rw [← h.2]; exact Below.refl _ _⟩ : e = .returned (.bool (Req.alike nm ot)) ∧ Below w'.heap.size w' w''))
  obtain ⟨ao, hao⟩ : ∃ o, o = Req.alike nm ot := ⟨_, rfl⟩
  rw [← hao] at HA11 HA12
  have HFT := Lib.hid hf
  clear hwr hLL hgn hhx hhk hpx hpy hro hao hfew HQ hf
  generalize hW : w.alloc (.cells #[.string (S m), .string (S t), .slice A l.length cap, .string (S b)] 33) = w0 at h0 hb0 he0
  go_enter Tryd.func5, Tryd.ntmps5
  go_wp2_with fail
  refine (awake_req w0 he0).mono ?_
  rintro e w1 ⟨rfl, hb1⟩
  have h1 := h0.next hb1
  have he1 := he0.next hb1
  have hb1' := below_step hb0 hb1
  clear h0 he0 hb0 hb1 hW
  obtain ⟨c0, c1, c2, c3⟩ := h1.cells
  go_wp2_with fail
  refine (fewR_to m t A cap l b true w1 h1.row hm HFT.out).mono ?_
  rintro e w2 ⟨rfl, hb2⟩
  have h2 := h1.next hb2
  have he2 := he1.next hb2
  have hb2' := below_step hb1' hb2
  clear h1 he1 hb1' hb2 c0 c1 c2 c3
  obtain ⟨c0, c1, c2, c3⟩ := h2.cells
  go_wp2_with fail
  refine (HA1.out w2 h2.row).mono ?_
  rintro e w3 ⟨rfl, hb3⟩
  have h3 := h2.next hb3
  have he3 := he2.next hb3
  have hb3' := below_step hb2' hb3
  clear h2 he2 hb2' hb3 c0 c1 c2 c3 HA1
  obtain ⟨c0, c1, c2, c3⟩ := h3.cells
  go_wp2_with fail
  refine (HA2.out w3 he3 h3.row).mono ?_
  rintro e w4 ⟨rfl, hb4⟩
  have h4 := h3.next hb4
  have he4 := he3.next hb4
  have hb4' := below_step hb3' hb4
  clear h3 he3 hb3' hb4 c0 c1 c2 c3 HA2
  obtain ⟨c0, c1, c2, c3⟩ := h4.cells
  go_wp2_with fail
  refine (HA3.out w4 he4.digs).mono ?_
  rintro e w5 ⟨A5, cap5, rfl, p5, hb5⟩
  have h5 := h4.next hb5
  have he5 := he4.next hb5
  have hb5' := below_step hb4' hb5
  clear h4 he4 hb4' hb5 c0 c1 c2 c3 HA3
  obtain ⟨c0, c1, c2, c3⟩ := h5.cells
  go_wp2_with fail
  refine (HA4.out w5).mono ?_
  rintro e w6 ⟨A6, cap6, rfl, p6, hb6⟩
  have h6 := h5.next hb6
  have he6 := he5.next hb6
  have hb6' := below_step hb5' hb6
  have p56 := p5.next hb6
  clear h5 he5 hb5' hb6 c0 c1 c2 c3 HA4 p5
  obtain ⟨c0, c1, c2, c3⟩ := h6.cells
  go_wp2_with fail
  refine (HA5.out w6 h6.row).mono ?_
  rintro e w7 ⟨rfl, hb7⟩
  have h7 := h6.next hb7
  have he7 := he6.next hb7
  have hb7' := below_step hb6' hb7
  have q1 := p56.next hb7
  have q2 := p6.next hb7
  clear h6 he6 hb6' hb7 c0 c1 c2 c3 HA5 p56 p6
  obtain ⟨c0, c1, c2, c3⟩ := h7.cells
  go_wp2_with fail
  refine (HA6.out w7 h7.row).mono ?_
  rintro e w8 ⟨rfl, hb8⟩
  have h8 := h7.next hb8
  have he8 := he7.next hb8
  have hb8' := below_step hb7' hb8
  have r1 := q1.next hb8
  have r2 := q2.next hb8
  clear h7 he7 hb7' hb8 c0 c1 c2 c3 HA6 q1 q2
  obtain ⟨c0, c1, c2, c3⟩ := h8.cells
  go_wp2_with fail
  refine (HA7.out w8).mono ?_
  rintro e w9 ⟨rfl, hb9⟩
  have h9 := h8.next hb9
  have he9 := he8.next hb9
  have hb9' := below_step hb8' hb9
  have s1 := r1.next hb9
  have s2 := r2.next hb9
  clear h8 he8 hb8' hb9 c0 c1 c2 c3 HA7 r1 r2
  obtain ⟨c0, c1, c2, c3⟩ := h9.cells
  go_wp2_with fail
  have hU : RAt w9 w.heap.size w9 := ⟨Below.refl _ _, h9.lt⟩
  have e1 := beq_self_S sx
  have e2 : (sn == sn) = true := by simp
  have e3 : (gn == gn) = true := by simp
  have e4 := beq_self_S hx
  have e5 : (hk == hk) = true := by simp
  have e6 := beq_self_S px
  have e7 : (ro == ro) = true := by simp
  have e8 : (ao == ao) = true := by simp
  go_region_held3 (fun w' => w'.cell? ⟨w.heap.size, 0, none⟩ = some (.string (S m)) ∧ w'.cell? ⟨w.heap.size, 1, none⟩ = some (.string (S t)) ∧ w'.cell? ⟨w.heap.size, 2, none⟩ = some (.slice A l.length cap) ∧ w'.cell? ⟨w.heap.size, 3, none⟩ = some (.string (S b)) ∧ RAt w9 w.heap.size w')
    (first
      | exact ⟨c0, c1, c2, c3, RAt.drew hU⟩
      | (go_split_ands
         refine ⟨RAt.cell ‹RAt _ _ _› hb ‹_›, RAt.cell ‹RAt _ _ _› hb ‹_›, RAt.cell ‹RAt _ _ _› hb ‹_›, RAt.cell ‹RAt _ _ _› hb ‹_›, RAt.call ‹RAt _ _ _› hb⟩))
    (first
      | (go_at_call 27; go_split_ands; refine (HA9.out _ (h9.row.next (‹RAt _ _ _›).1)).mono ?_; rintro e w' ⟨rfl, hb⟩)
      | (go_at_call 28; go_split_ands; refine (HA10.out _ (he9.next (‹RAt _ _ _›).1) (h9.row.next (‹RAt _ _ _›).1)).mono ?_; rintro e w' ⟨rfl, hb⟩)
      | (go_at_call 29; go_split_ands; refine (pairs_self A5 A6 cap5 cap6 L _ (s1.next (‹RAt _ _ _›).1) (s2.next (‹RAt _ _ _›).1) hL).mono ?_; rintro e w' ⟨rfl, hb⟩)
      | (go_at_call 30; refine (HA8.out _).mono ?_; rintro e w' ⟨rfl, hb⟩)
      | (go_at_call 31; refine (HA11.out _).mono ?_; rintro e w' ⟨rfl, hb⟩)
      | (go_at_call 32; refine (HA12.out _).mono ?_; rintro e w' ⟨rfl, hb⟩))
  rename_i hH
  have hbz := below_step hb9' hH.2.2.2.2.1
  clear hb hH
  go_wp2
  go_ret
  exact ⟨rfl, hbz⟩
end Go.Proofs.YtbpeohadgplaaaaDoor
