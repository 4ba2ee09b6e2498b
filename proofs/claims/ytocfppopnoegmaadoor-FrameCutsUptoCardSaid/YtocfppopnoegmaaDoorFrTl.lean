/- FrameTells, over what package frame's calls tell. -/
import Derived.Test.YtocfppopnoegmaaDoorFrK
namespace Go.Proofs.YtocfppopnoegmaaDoor
set_option maxRecDepth 8000
open Go.RowKit

def bytesOf : Except Nat (List UInt8) → List UInt8
  | .ok f => f
  | .error _ => []
def codeOf : Except Nat (List UInt8) → Int
  | .ok _ => 0
  | .error k => (k : Int)
theorem PutPost.form {r : Except Nat (List UInt8)} {w : World} {e : Ending} {w' : World} (h : PutPost r w e w') : ∃ A c m, e = .returned (.tuple #[.slice A m c, .int .i64 (codeOf r)]) ∧ (bytesOf r).length = m ∧ BCells w' w'.heap.size A (bytesOf r) ∧ m ≤ c ∧ c ≤ 9223372036854775807 ∧ Below w.heap.size w w' := by
  obtain ⟨hb, h⟩ := h
  cases r with
  | error k => exact ⟨none, 0, 0, h, rfl, fun hn => absurd hn (by simp [bytesOf]), Nat.le_refl _, by omega, hb⟩
  | ok f =>
    obtain ⟨A, c, he, hrow⟩ := h
    have := row_cap hrow
    exact ⟨A, c, f.length, he, rfl, row_cells hrow, this.1, this.2, hb⟩
theorem same_to (w : World) (A A' : Option Addr) (l : List UInt8) (n n' c c' : Nat) (hn : l.length = n) (hn' : l.length = n') (h : BCells w w.heap.size A l) (h' : BCells w w.heap.size A' l) :
    Calls Tryd.prog 15 #[.slice A n c, .slice A' n' c'] w fun e w' => e = .returned (.bool true) ∧ w = w' := by
  subst hn hn'
  have := same_any w A A' l l c c' h h'
  rw [decide_eq_true rfl] at this
  exact this
theorem lists_to (w : World) (A A' : Option Addr) (l : List (List UInt8)) (n n' c c' : Nat) (hn : l.length = n) (hn' : l.length = n') (h : LC w w.heap.size A l) (h' : LC w w.heap.size A' l) (hl : n ≤ 9223372036854775807) :
    Calls Tryd.prog 16 #[.slice A n c, .slice A' n' c'] w fun e w' => e = .returned (.bool true) ∧ Below w.heap.size w w' := by
  have := refLists_any A A' c c' n n' l l w hn hn' h h' hl
  rw [decide_eq_true rfl] at this
  exact this

set_option maxHeartbeats 3200000 in
theorem frameTells_any {Env : World → Prop} (hF : FrOk Env) (A0 A1 A2 : Option Addr) (c0 c1 c2 n0 n1 n2 : Nat) (b s : List UInt8) (l : List (List UInt8)) (w : World) (hE : Env w)
    (hn0 : b.length = n0) (hb : BCells w w.heap.size A0 b) (hc0 : n0 ≤ c0) (hm0 : c0 ≤ 9223372036854775807)
    (hn1 : l.length = n1) (hl : LC w w.heap.size A1 l) (hc1 : n1 ≤ c1) (hm1 : c1 ≤ 9223372036854775807) (hq : ∀ b ∈ l, b.length ≤ 9223372036854775807)
    (hn2 : s.length = n2) (hs : BCells w w.heap.size A2 s) (hc2 : n2 ≤ c2) (hm2 : c2 ≤ 9223372036854775807) :
    Calls Tryd.prog 3 #[.slice A0 n0 c0, .slice A1 n1 c1, .slice A2 n2 c2] w fun e w' => e = .returned (.bool true) ∧ Below w.heap.size w w' := by
  obtain ⟨few, hfew⟩ : ∃ q, q = Fr.few l := ⟨_, rfl⟩
  obtain ⟨st, hst⟩ : ∃ q : Bool, q = (!few || (decide (500 < n0) && decide (n0 ≤ 4000)) || decide (5000 < n0) || decide (700 < n2)) := ⟨_, rfl⟩
  have HST := Lib.hid hst
  have HFEW := Lib.hid hfew
  have HN0 := Lib.hid hn0
  have HN1 := Lib.hid hn1
  have HN2 := Lib.hid hn2
  have HQ := Lib.hid hq
  have HF := Lib.hid hF
  clear hst hfew hn0 hn1 hn2 hq hF
  go_enter Tryd.func3, Tryd.ntmps3
  go_wp2_with fail
  refine (awake9_any HF.out w hE).mono ?_
  rintro _ w1 ⟨rfl, hb1⟩
  have hE1 := HF.out.next _ _ hE hb1
  have hb := hb.next hb1
  have hl := hl.next hb1
  have hs := hs.next hb1
  go_wp2_with fail
  refine (refFew_any A1 c1 n1 l w1 HN1.out hl (by omega) HQ.out).mono ?_
  rintro _ w' ⟨rfl, rfl⟩
  rw [← HFEW.out]
  go_upto_region 3 with fail
  go_cut [45] (fun t wx => t = .bool st ∧ wx = w1)
  case first =>
    cases few with
    | false =>
      have hbv : st = true := by rw [HST.out, show (!false) = true from rfl, Bool.true_or, Bool.true_or, Bool.true_or]
      subst hbv
      go_wp2_with fail
      go_meet
      first | exact ⟨rfl, rfl⟩ | exact ⟨congrArg Value.bool (by first | rfl | (simp; done) | (simp; omega)), rfl⟩
    | true =>
      by_cases h5 : 500 < n0
      · have i5 : (500 : Int) < (n0 : Int) := by omega
        by_cases h4 : n0 ≤ 4000
        · have i4 : (n0 : Int) ≤ 4000 := by omega
          have hbv : st = true := by rw [HST.out, decide_eq_true h5, decide_eq_true h4, show (!true) = false from rfl, Bool.and_self, Bool.or_true, Bool.true_or, Bool.true_or]
          subst hbv
          go_wp2_with fail
          go_meet
          first | exact ⟨rfl, rfl⟩ | exact ⟨congrArg Value.bool (by first | rfl | (simp; done) | (simp; omega)), rfl⟩
        · have i4 : ¬ (n0 : Int) ≤ 4000 := by omega
          by_cases h50 : 5000 < n0
          · have i50 : (5000 : Int) < (n0 : Int) := by omega
            have hbv : st = true := by rw [HST.out, decide_eq_true h50, Bool.or_true, Bool.true_or]
            subst hbv
            go_wp2_with fail
            go_meet
            first | exact ⟨rfl, rfl⟩ | exact ⟨congrArg Value.bool (by first | rfl | (simp; done) | (simp; omega)), rfl⟩
          · have i50 : ¬ (5000 : Int) < (n0 : Int) := by omega
            by_cases h7 : 700 < n2
            · have i7 : (700 : Int) < (n2 : Int) := by omega
              have hbv : st = true := by rw [HST.out, decide_eq_true h7, Bool.or_true]
              subst hbv
              go_wp2_with fail
              go_meet
              first | exact ⟨rfl, rfl⟩ | exact ⟨congrArg Value.bool (by first | rfl | (simp; done) | (simp; omega)), rfl⟩
            · have i7 : ¬ (700 : Int) < (n2 : Int) := by omega
              have hbv : st = false := by rw [HST.out, decide_eq_true h5, decide_eq_false h4, decide_eq_false h50, decide_eq_false h7]; rfl
              subst hbv
              go_wp2_with fail
              go_meet
              first | exact ⟨rfl, rfl⟩ | exact ⟨congrArg Value.bool (by first | rfl | (simp; done) | (simp; omega)), rfl⟩
      · have i5 : ¬ (500 : Int) < (n0 : Int) := by omega
        have h50 : ¬ 5000 < n0 := by omega
        have i50 : ¬ (5000 : Int) < (n0 : Int) := by omega
        by_cases h7 : 700 < n2
        · have i7 : (700 : Int) < (n2 : Int) := by omega
          have hbv : st = true := by rw [HST.out, decide_eq_true h7, Bool.or_true]
          subst hbv
          go_wp2_with fail
          go_meet
          first | exact ⟨rfl, rfl⟩ | exact ⟨congrArg Value.bool (by first | rfl | (simp; done) | (simp; omega)), rfl⟩
        · have i7 : ¬ (700 : Int) < (n2 : Int) := by omega
          have hbv : st = false := by rw [HST.out, decide_eq_false h5, decide_eq_false h50, decide_eq_false h7]; rfl
          subst hbv
          go_wp2_with fail
          go_meet
          first | exact ⟨rfl, rfl⟩ | exact ⟨congrArg Value.bool (by first | rfl | (simp; done) | (simp; omega)), rfl⟩
  case rest =>
    obtain ⟨hc1', hc2'⟩ := hcut
    subst hc1'
    replace hc2' := hc2'.symm
    subst hc2'
    cases st with
    | true =>
      go_wp2_with fail
      go_ret
      exact ⟨rfl, hb1⟩
    | false =>
      have hfacts : few = true ∧ n0 ≤ 5000 ∧ n2 ≤ 700 := by
        have h := HST.out
        cases few with
        | false => cases h
        | true =>
          refine ⟨rfl, ?_, ?_⟩
          · rcases Nat.lt_or_ge 5000 n0 with h1 | h1
            · rw [decide_eq_true h1] at h; simp at h
            · exact h1
          · rcases Nat.lt_or_ge 700 n2 with h1 | h1
            · rw [decide_eq_true h1] at h; simp at h
            · exact h1
      obtain ⟨hf1, h50, h70⟩ := hfacts
      have hot := Fr.okTotal_few (HFEW.out.symm.trans hf1)
      have HOT : Hid (Fr.okTotal l ≤ 16777216) := Lib.hid (by omega)
      clear hf1 hot HST HFEW
      have HP := Lib.hid (HF.out.put A0 c0 n0 b w1 hE1 HN0.out hb hc0 hm0)
      obtain ⟨rp, hrp⟩ : ∃ r, r = Fr.put b := ⟨_, rfl⟩
      have HRP := Lib.hid hrp
      rw [← hrp] at HP
      clear hrp
      go_wp2_with fail
      refine HP.out.mono ?_
      rintro _ w2 hp
      obtain ⟨Ax, cx, mx, rfl, hmx, hbx, _, _, hb2⟩ := hp.form
      have hE2 := HF.out.next _ _ hE1 hb2
      have hbw := hb1.trans (hb2.mono hb1.size)
      have hb := hb.next hb2
      have hl := hl.next hb2
      have hs := hs.next hb2
      clear hp hb2 hE1 hb1
      have HP := Lib.hid (refPut_any A0 c0 n0 b w2 HN0.out hb (by omega))
      rw [← HRP.out] at HP
      go_wp2_with fail
      refine HP.out.mono ?_
      rintro _ w3 hp
      obtain ⟨Ay, cy, my, rfl, hmy, hby, _, _, hb3⟩ := hp.form
      have hE3 := HF.out.next _ _ hE2 hb3
      have hbw := hbw.trans (hb3.mono hbw.size)
      have hl := hl.next hb3
      have hs := hs.next hb3
      have hbx := hbx.next hb3
      clear hp hb3 hE2 HP hb
      have HP := Lib.hid (HF.out.all A1 c1 n1 l w3 hE3 HN1.out hl hc1 hm1 HOT.out HQ.out)
      obtain ⟨ra, hra⟩ : ∃ r, r = Fr.all l := ⟨_, rfl⟩
      have HRA := Lib.hid hra
      rw [← hra] at HP
      clear hra
      go_wp2_with fail
      refine HP.out.mono ?_
      rintro _ w4 hp
      obtain ⟨Au, cu, mu, rfl, hmu, hbu, _, _, hb4⟩ := hp.form
      have hE4 := HF.out.next _ _ hE3 hb4
      have hbw := hbw.trans (hb4.mono hbw.size)
      have hl := hl.next hb4
      have hs := hs.next hb4
      have hbx := hbx.next hb4
      have hby := hby.next hb4
      clear hp hb4 hE3 HP
      have HP := Lib.hid (refAll_any A1 c1 n1 l w4 HN1.out hl HOT.out HQ.out (by omega))
      rw [← HRA.out] at HP
      go_wp2_with fail
      refine HP.out.mono ?_
      rintro _ w5 hp
      obtain ⟨Av, cv, mv, rfl, hmv, hbv, _, _, hb5⟩ := hp.form
      have hE5 := HF.out.next _ _ hE4 hb5
      have hbw := hbw.trans (hb5.mono hbw.size)
      have hs := hs.next hb5
      have hbx := hbx.next hb5
      have hby := hby.next hb5
      have hbu := hbu.next hb5
      clear hp hb5 hE4 HP hl
      have HP := Lib.hid (HF.out.scan A2 c2 n2 s w5 hE5 HN2.out hs hc2 hm2 (by omega))
      go_wp2_with fail
      refine HP.out.mono ?_
      rintro _ w6 ⟨Ap, cp, mp, rfl, hmp, _, _, hlp, hb6⟩
      subst hmp
      have hE6 := HF.out.next _ _ hE5 hb6
      have hbw := hbw.trans (hb6.mono hbw.size)
      have hs := hs.next hb6
      have hbx := hbx.next hb6
      have hby := hby.next hb6
      have hbu := hbu.next hb6
      have hbv := hbv.next hb6
      clear hb6 hE5 HP
      have HP := Lib.hid (refScan_any A2 c2 n2 s w6 HN2.out hs hc2 hm2 (by omega))
      have HMX : Hid ((Fr.scan s).1.length ≤ 9223372036854775807) := Lib.hid (by
        have h1 := Fr.scan_is s.length s (Nat.le_refl _)
        have h2 := Fr.frames_total (Fr.scan s).1
        have h3 := Fr.scan_le s
        have h4 := Fr.total_count (Fr.scan s).1
        have := HN2.out
        omega)
      go_wp2_with fail
      refine HP.out.mono ?_
      rintro _ w7 hp
      obtain ⟨Aq, cq, mq, rfl, hmq, hlq, hb7⟩ := refScan_told hp
      have hE7 := HF.out.next _ _ hE6 hb7
      have hbw := hbw.trans (hb7.mono hbw.size)
      have hbx := hbx.next hb7
      have hby := hby.next hb7
      have hbu := hbu.next hb7
      have hbv := hbv.next hb7
      have hlp := hlp.next hb7
      clear hp hb7 hE6 HP hs
      have HS1 := Lib.hid (same_to w7 Ax Ay (bytesOf rp) mx my cx cy hmx hmy hbx hby)
      have HS2 := Lib.hid (same_to w7 Au Av (bytesOf ra) mu mv cu cv hmu hmv hbu hbv)
      have HLI := Lib.hid (lists_to w7 Ap Aq (Fr.scan s).1 _ mq cp cq rfl hmq.symm hlp hlq HMX.out)
      have HSZ := Lib.hid (fun (w' : World) (h : Env w') => HF.out.size n0 w' h (by omega))
      have HNX := Lib.hid (fun w' h => HF.out.next w7 w' hE7 h)
      obtain ⟨k1, hk1⟩ : ∃ k, k = codeOf rp := ⟨_, rfl⟩
      obtain ⟨k2, hk2⟩ : ∃ k, k = codeOf ra := ⟨_, rfl⟩
      obtain ⟨k3, hk3⟩ : ∃ k, k = ((Fr.scan s).2 : Int) := ⟨_, rfl⟩
      rw [← hk1, ← hk2, ← hk3]
      have e1 : (k1 == k1) = true := by simp
      have e2 : (k2 == k2) = true := by simp
      have e3 : (k3 == k3) = true := by simp
      have hw6 : IntKind.i64.wrap ((n0 : Int) + 6) = (n0 : Int) + 6 := IntWalk.i64_in _ (by omega)
      have e4 : ((n0 : Int) + 6 == (n0 : Int) + 6) = true := by simp
      clear hk1 hk2 hk3 hbx hby hbu hbv hlp hlq hmx hmy hmu hmv hmq
      have tok1 : True := trivial
      go_wp2_with (first
        | (refine HS1.out.mono ?_; clear HS1; rintro _ w' ⟨rfl, rfl⟩)
        | (refine HS2.out.mono ?_; clear HS2; rintro _ w' ⟨rfl, rfl⟩))
      refine HLI.out.mono ?_
      rintro _ w8 ⟨rfl, hb8⟩
      have hE8 := HNX.out w8 hb8
      have hbw := hbw.trans (hb8.mono hbw.size)
      have HZ := Lib.hid (HSZ.out w8 hE8)
      clear hb8
      go_wp2_with fail
      refine HZ.out.mono ?_
      rintro _ w9 ⟨rfl, hb9⟩
      have hbw := hbw.trans (hb9.mono hbw.size)
      go_wp2_with fail
      go_ret
      first
        | exact ⟨rfl, hbw⟩
        | exact ⟨ret_bool (by simp), hbw⟩
end Go.Proofs.YtocfppopnoegmaaDoor
