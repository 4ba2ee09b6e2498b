/- What the document's Few and Same of responses answer. -/
import Derived.Test.YtehgigfngelkjaaDoorRspBack
namespace Go.Proofs.YtehgigfngelkjaaDoor
set_option maxRecDepth 8000
open Go.RowKit

def fewR (l : List Pct.PairL) (b : List UInt8) : Bool := fewB l && (decide (b.length ≤ 300) || decide (8192 < b.length))
theorem fewR_is {l : List Pct.PairL} {b : List UInt8} (h : fewR l b = true) : (∀ k (hk : k < l.length), l[k].1.length ≤ 60 ∧ l[k].2.length ≤ 60) ∧ l.length ≤ 50 := by
  unfold fewR fewB at h
  rw [Bool.and_eq_true, Bool.and_eq_true, decide_eq_true_eq] at h
  refine ⟨fun k hk => ?_, h.1.2⟩
  have := List.all_eq_true.1 h.1.1 _ (List.getElem_mem hk)
  unfold few1 at this
  rw [Bool.and_eq_true, decide_eq_true_eq, decide_eq_true_eq] at this
  exact this
set_option maxHeartbeats 400000 in
theorem refFew_any (s : Int) (A : Option Addr) (cap : Nat) (l : List Pct.PairL) (b : List UInt8) (w : World) (hl : PCells w w.heap.size A l) (hm : l.length ≤ 9223372036854775807) :
    Calls Tryd.prog 10 #[rspV s (.slice A l.length cap) b] w fun e w' => e = .returned (.bool (fewR l b)) ∧ Below w.heap.size w w' := by
  have hz : (S b).size = b.length := rfl
  unfold rspV
  go_enter Tryd.func10, Tryd.ntmps10
  go_upto_region 1 with fail
  have B0 : BlkR (w.alloc (.cells #[.int .i64 s, .slice A l.length cap, .string (S b)] 24)) w.heap.size (.int .i64 s) (.slice A l.length cap) (.string (S b)) := heap_alloc_new w _
  have hb0 : Below w.heap.size w (w.alloc (.cells #[.int .i64 s, .slice A l.length cap, .string (S b)] 24)) := (Below.refl _ _).alloc (Nat.le_refl _) _
  have hl0 := hl.next hb0
  have hs0 : w.heap.size < (w.alloc (.cells #[.int .i64 s, .slice A l.length cap, .string (S b)] 24)).heap.size := by simp
  generalize (w.alloc (.cells #[.int .i64 s, .slice A l.length cap, .string (S b)] 24)) = w0 at B0 hb0 hl0 hs0 ⊢
  have c1 := B0.c1
  go_wp2_with fail
  refine (few_any A cap l w0 hl0 hm).mono ?_
  rintro e w1 ⟨rfl, hw⟩
  have hb1 : Below w0.heap.size w0 w1 := by
    first | exact hw | exact below_of_drewN hw | (subst hw; exact Below.refl _ _)
  have B1 : BlkR w1 w.heap.size (.int .i64 s) (.slice A l.length cap) (.string (S b)) := (hb1.block _ hs0).trans B0
  have hbw : Below w.heap.size w w1 := hb0.trans (hb1.mono hb0.size)
  have c2 := B1.c2
  have HF := Lib.hid (show fewR l b = (fewB l && (decide (b.length ≤ 300) || decide (8192 < b.length))) from rfl)
  clear c1 hb1 B1 hb0 B0 hl0 hl
  obtain ⟨n, hn⟩ : ∃ n, n = b.length := ⟨_, rfl⟩
  rw [← hn] at HF hz
  clear hn
  cases hf : fewB l with
  | false =>
    rw [hf] at HF
    go_wp2
    go_ret
    exact ⟨by rw [HF.out]; rfl, hbw⟩
  | true =>
    rw [hf] at HF
    by_cases h1 : n ≤ 300
    · have h1' : (n : Int) ≤ 300 := by omega
      have HV := Lib.hid (show fewR l b = true by rw [HF.out, decide_eq_true h1]; rfl)
      go_wp2
      go_ret
      exact ⟨by rw [HV.out]; rfl, hbw⟩
    · by_cases h2 : 8192 < n
      · have h1' : ¬ (n : Int) ≤ 300 := by omega
        have h2' : 8192 < (n : Int) := by omega
        have HV := Lib.hid (show fewR l b = true by rw [HF.out, decide_eq_true h2]; simp)
        go_wp2
        go_ret
        exact ⟨by rw [HV.out]; rfl, hbw⟩
      · have h1' : ¬ (n : Int) ≤ 300 := by omega
        have h2' : ¬ 8192 < (n : Int) := by omega
        have HV := Lib.hid (show fewR l b = false by rw [HF.out, decide_eq_false h1, decide_eq_false h2]; rfl)
        go_wp2
        go_ret
        exact ⟨ret_bool (by rw [HV.out]; simp; omega), hbw⟩

def sameR (s : Int) (l : List Pct.PairL) (b : List UInt8) (s' : Int) (l' : List Pct.PairL) (b' : List UInt8) : Bool := decide (s = s') && decide (b = b') && decide (l = l')
theorem sameR_is {s s' : Int} {l l' : List Pct.PairL} {b b' : List UInt8} : sameR s l b s' l' b' = true ↔ (s, l, b) = (s', l', b') := by
  unfold sameR
  simp [Prod.mk.injEq, and_assoc, and_comm]
set_option maxHeartbeats 800000 in
theorem same_any (s : Int) (v : Value) (l : List Pct.PairL) (b : List UInt8) (s' : Int) (v' : Value) (l' : List Pct.PairL) (b' : List UInt8) (w : World) (hl : Wr w v l) (hl' : Wr w v' l') (hm : l.length ≤ 1099511627776) :
    Calls Tryd.prog 22 #[.agg #[.int .i64 s, v, .string (S b)], .agg #[.int .i64 s', v', .string (S b')]] w fun e w' => e = .returned (.bool (sameR s l b s' l' b')) ∧ Below w.heap.size w w' := by
  obtain ⟨A, cap, rfl, hc, _, _⟩ := hl.form
  obtain ⟨A', cap', rfl, hc', _, _⟩ := hl'.form
  go_enter Tryd.func22, Tryd.ntmps22
  go_upto_region 1 with fail
  have B0 : BlkR ((w.alloc (.cells #[.int .i64 s, .slice A l.length cap, .string (S b)] 24)).alloc (.cells #[.int .i64 s', .slice A' l'.length cap', .string (S b')] 24)) w.heap.size (.int .i64 s) (.slice A l.length cap) (.string (S b)) := (Below.heap_alloc _ _ _ (by simp)).trans (heap_alloc_new w _)
  have C0 : BlkR ((w.alloc (.cells #[.int .i64 s, .slice A l.length cap, .string (S b)] 24)).alloc (.cells #[.int .i64 s', .slice A' l'.length cap', .string (S b')] 24)) (w.heap.size + 1) (.int .i64 s') (.slice A' l'.length cap') (.string (S b')) := by
    have h := heap_alloc_new (w.alloc (.cells #[.int .i64 s, .slice A l.length cap, .string (S b)] 24)) (.cells #[.int .i64 s', .slice A' l'.length cap', .string (S b')] 24)
    have hz : (w.alloc (.cells #[.int .i64 s, .slice A l.length cap, .string (S b)] 24)).heap.size = w.heap.size + 1 := by simp
    rw [hz] at h
    exact h
  have hb0 : Below w.heap.size w ((w.alloc (.cells #[.int .i64 s, .slice A l.length cap, .string (S b)] 24)).alloc (.cells #[.int .i64 s', .slice A' l'.length cap', .string (S b')] 24)) := ((Below.refl _ _).alloc (Nat.le_refl _) _).alloc (by simp) _
  generalize ((w.alloc (.cells #[.int .i64 s, .slice A l.length cap, .string (S b)] 24)).alloc (.cells #[.int .i64 s', .slice A' l'.length cap', .string (S b')] 24)) = w0 at B0 C0 hb0 ⊢
  have hp : PReads w0 w0.heap.size (.slice A l.length cap) l := ⟨A, cap, rfl, hc.next hb0⟩
  have hp' : PReads w0 w0.heap.size (.slice A' l'.length cap') l' := ⟨A', cap', rfl, hc'.next hb0⟩
  have hP := pairs_any _ _ l l' w0 hp hp' hm
  clear hc hc' hp hp' hl hl'
  have b0 := B0.c0
  have b1 := B0.c1
  have b2 := B0.c2
  have c0 := C0.c0
  have c1 := C0.c1
  have c2 := C0.c2
  clear B0 C0
  have hQ : ((S b).toList == (S b').toList) = decide (b = b') := by rw [S_list, S_list]; exact Bool.eq_iff_iff.2 (by simp)
  have HV := Lib.hid (show sameR s l b s' l' b' = (decide (s = s') && decide (b = b') && decide (l = l')) from rfl)
  by_cases h1 : s = s'
  · rw [decide_eq_true h1] at HV
    by_cases h2 : b = b'
    · rw [decide_eq_true h2] at HV hQ
      have hQ' : (S b).toList = (S b').toList := by simpa using hQ
      clear h2
      go_wp2_with fail
      refine hP.mono ?_
      rintro e w1 ⟨rfl, hw⟩
      go_wp2
      go_ret
      exact ⟨by rw [HV.out]; rfl, hb0.trans ((below_of_drewN hw).mono hb0.size)⟩
    · rw [decide_eq_false h2] at HV hQ
      have hQ' : ¬ (S b).toList = (S b').toList := by simpa using hQ
      clear h2
      go_wp2
      go_ret
      exact ⟨by rw [HV.out]; rfl, hb0⟩
  · rw [decide_eq_false h1] at HV
    go_wp2
    go_ret
    exact ⟨by rw [HV.out]; rfl, hb0⟩
end Go.Proofs.YtehgigfngelkjaaDoor
