/- What package response's Read answers, for any text of at most 2^30 bytes, where the variables of strconv that it reaches read as their texts lay them. -/
import Derived.Test.YtehgigfngelkjaaDoorEn
namespace Go.Proofs.YtehgigfngelkjaaDoor
set_option maxRecDepth 8000
open Go.RowKit

namespace Rsp
def read (s : Bytes) : Option (Int × List Pct.PairL × Bytes) := if right (guessS s) (guessL s) (guessB s) = true ∧ write (guessS s) (guessL s) (guessB s) = s then some (guessS s, guessL s, guessB s) else none
theorem guessL_mem {s : Bytes} {q : Pct.PairL} (h : q ∈ guessL s) : q.1.length ≤ s.length ∧ q.2.length ≤ s.length := by
  unfold guessL at h
  obtain ⟨l, hl, rfl⟩ := List.mem_map.1 h
  have h1 := lines_len s l (List.mem_of_mem_drop (List.mem_of_mem_take hl))
  have h2 := hdrOf_len l
  exact ⟨by omega, by omega⟩
theorem guessS_wf (s : Bytes) : (Lit.int .i64 (guessS s)).wf = true := atoiV_wf _
end Rsp
/-- What Read hands back. -/
def ReadPost (s : List UInt8) (w : World) (e : Ending) (w' : World) : Prop :=
  ∃ (st : Int) (v : Value) (l : List Pct.PairL) (b : List UInt8) (n : Int), e = .returned (.tuple #[.agg #[.int .i64 st, v, .string (S b)], .int .i64 n]) ∧ Wr w' v l ∧ Below w.heap.size w w' ∧
    ((n = 0 ∧ Rsp.read s = some (st, l, b)) ∨ (n = 10 ∧ Rsp.read s = none ∧ st = 0 ∧ l = [] ∧ b = []))
theorem wr_nil (w : World) : Wr w (.slice none 0 0) [] := ⟨none, 0, rfl, fun h => absurd h (by simp), by simp, fun _ => rfl⟩
theorem wr_setCell {w : World} {base : Nat} {v : Value} {l : List Pct.PairL} {g i : Nat} (h : PRow base w v l) (hg : g < base) (u : Value) : PRow base (w.setCell ⟨g, i, none⟩ u) v l := own_setCell h hg u

set_option maxHeartbeats 1600000 in
theorem read_any (s : List UInt8) (w : World) (he : EnvE w) (hs : s.length ≤ 1073741824) :
    Calls Tryd.prog 20 #[.string (S s)] w (ReadPost s w) := by
  have HR := Lib.hid (show Rsp.read s = if Rsp.right (Rsp.guessS s) (Rsp.guessL s) (Rsp.guessB s) = true ∧ Rsp.write (Rsp.guessS s) (Rsp.guessL s) (Rsp.guessB s) = s then some (Rsp.guessS s, Rsp.guessL s, Rsp.guessB s) else none from rfl)
  have HQ := Lib.hid (show ∀ k (h : k < (Rsp.guessL s).length), (Rsp.guessL s)[k].1.length ≤ 1073741824 ∧ (Rsp.guessL s)[k].2.length ≤ 1073741824 from fun k h => by
    have := Rsp.guessL_mem (List.getElem_mem h)
    exact ⟨by omega, by omega⟩)
  have HW := Lib.hid (Rsp.guessS_wf s)
  have hG := fun w' (h : EnvE w') => guess_any s w' h hs
  unfold rspV at hG
  generalize Rsp.guessS s = st at HR HW hG
  generalize Rsp.guessL s = l at HR HQ hG
  generalize Rsp.guessB s = b at HR hG
  go_enter Tryd.func20, Tryd.ntmps20
  go_upto_region 1 with fail
  have hb0 : Below w.heap.size w (w.alloc (.cells #[.int .i64 0, .slice none 0 0, .string ⟨#[]⟩] 24)) := (Below.refl _ _).alloc (Nat.le_refl _) _
  have B0 : BlkR (w.alloc (.cells #[.int .i64 0, .slice none 0 0, .string ⟨#[]⟩] 24)) w.heap.size (.int .i64 0) (.slice none 0 0) (.string ⟨#[]⟩) := heap_alloc_new w _
  have hs0 : w.heap.size < (w.alloc (.cells #[.int .i64 0, .slice none 0 0, .string ⟨#[]⟩] 24)).heap.size := by simp
  generalize (w.alloc (.cells #[.int .i64 0, .slice none 0 0, .string ⟨#[]⟩] 24)) = w0 at hb0 B0 hs0 ⊢
  go_wp2_with fail
  refine (hG w0 (he.next hb0)).mono ?_
  rintro e w1 ⟨v, rfl, hr1, hb1⟩
  obtain ⟨A, cap, rfl⟩ := hr1.form
  have B1 : BlkR w1 w.heap.size (.int .i64 0) (.slice none 0 0) (.string ⟨#[]⟩) := (hb1.block _ hs0).trans B0
  have hs1 : w.heap.size < w1.heap.size := Nat.lt_of_lt_of_le hs0 hb1.size
  have hbw1 : Below w.heap.size w w1 := hb0.trans (hb1.mono hb0.size)
  clear hG B0 hb0 hb1
  go_upto_region 2 with fail
  have C2 : BlkR (w1.alloc (.cells #[.int .i64 st, .slice A l.length cap, .string (S b)] 24)) w1.heap.size (.int .i64 st) (.slice A l.length cap) (.string (S b)) := heap_alloc_new w1 _
  have hb2 : Below w1.heap.size w1 (w1.alloc (.cells #[.int .i64 st, .slice A l.length cap, .string (S b)] 24)) := (Below.refl _ _).alloc (Nat.le_refl _) _
  have hs2 : w1.heap.size < (w1.alloc (.cells #[.int .i64 st, .slice A l.length cap, .string (S b)] 24)).heap.size := by simp
  generalize (w1.alloc (.cells #[.int .i64 st, .slice A l.length cap, .string (S b)] 24)) = w2 at C2 hb2 hs2 ⊢
  have B2 : BlkR w2 w.heap.size (.int .i64 0) (.slice none 0 0) (.string ⟨#[]⟩) := (hb2.block _ hs1).trans B1
  have hr2 : PRow w0.heap.size w2 (.slice A l.length cap) l := own_below hr1 hb2
  have hbw2 : Below w.heap.size w w2 := hbw1.trans (hb2.mono hbw1.size)
  have hw2 := hr2.wr
  have he2 := (he.next hbw2).env
  have c0 := C2.c0
  have c1 := C2.c1
  have c2 := C2.c2
  have hs2w : w.heap.size < w2.heap.size := by omega
  clear hr1 B1 hbw1 hb2
  go_wp2_with fail
  refine (write_to st _ l b w2 he2 HW.out hw2 HQ.out).mono ?_
  rintro e w3 ⟨rfl, hb3⟩
  have B3 : BlkR w3 w.heap.size (.int .i64 0) (.slice none 0 0) (.string ⟨#[]⟩) := (hb3.block _ hs2w).trans B2
  have C3 : BlkR w3 w1.heap.size (.int .i64 st) (.slice A l.length cap) (.string (S b)) := (hb3.block _ hs2).trans C2
  have hr3 : PRow w0.heap.size w3 (.slice A l.length cap) l := own_below hr2 hb3
  have hbw3 : Below w.heap.size w w3 := hbw2.trans (hb3.mono hbw2.size)
  have e0 := C3.c0
  have e1 := C3.c1
  have e2 := C3.c2
  have hs3 : w.heap.size < w0.heap.size := hs0
  clear c0 c1 c2 B2 C2 hr2 hbw2 hw2 he2 hb3 C3 HW
  have d0 := B3.c0
  have f0 := B3.fr 0
  cases hright : Rsp.right st l b with
  | false =>
    have HN := Lib.hid (show Rsp.read s = none by rw [HR.out, hright]; simp)
    have hres : writeRes st l b = .tuple #[.string ⟨#[]⟩, .int .i64 1] := by unfold writeRes; rw [hright, if_neg (by decide)]
    rw [hres]
    have k1 := B3.set0 (.int .i64 0)
    have k2 := k1.set1 (.slice none 0 0)
    have k3 := k2.set2 (.string ⟨#[]⟩)
    have d1 := k1.c1
    have f1 := k1.fr 1
    have d2 := k2.c2
    have f2 := k2.fr 2
    have q0 := k3.c0
    have q1 := k3.c1
    have q2 := k3.c2
    have hbb := ((hbw3.setCell (p := ⟨w.heap.size, 0, none⟩) (Nat.le_refl _) (.int .i64 0)).setCell (p := ⟨w.heap.size, 1, none⟩) (Nat.le_refl _) (.slice none 0 0)).setCell (p := ⟨w.heap.size, 2, none⟩) (Nat.le_refl _) (.string ⟨#[]⟩)
    clear hres hright k1 k2 k3 B3 e0 e1 e2
    go_wp2
    refine bodyPost_ret (v := .tuple #[.agg #[.int .i64 0, .slice none 0 0, .string (S [])], .int .i64 10]) ?_ rfl ⟨0, .slice none 0 0, [], [], 10, rfl, wr_nil _, hbb, .inr ⟨rfl, HN.out, rfl, rfl, rfl⟩⟩
    simp [results, Tryd.results20, go_sem, q0, q1, q2]
    rfl
  | true =>
    have hres : writeRes st l b = .tuple #[.string (S (Rsp.write st l b)), .int .i64 0] := by unfold writeRes; rw [hright, if_pos rfl]
    rw [hres]
    have hcmp : ((S (Rsp.write st l b)).toList == (S s).toList) = decide (Rsp.write st l b = s) := by rw [S_list, S_list]; exact Bool.eq_iff_iff.2 (by simp)
    by_cases heq : Rsp.write st l b = s
    · have HN := Lib.hid (show Rsp.read s = some (st, l, b) by rw [HR.out, hright]; simp [heq])
      rw [decide_eq_true heq] at hcmp
      have k1 := B3.set0 (.int .i64 st)
      have k2 := k1.set1 (.slice A l.length cap)
      have k3 := k2.set2 (.string (S b))
      have d1 := k1.c1
      have f1 := k1.fr 1
      have d2 := k2.c2
      have f2 := k2.fr 2
      have q0 := k3.c0
      have q1 := k3.c1
      have q2 := k3.c2
      have hown := wr_setCell (i := 2) (wr_setCell (i := 1) (wr_setCell (i := 0) hr3 hs3 (.int .i64 st)) hs3 (.slice A l.length cap)) hs3 (.string (S b))
      have hbb := ((hbw3.setCell (p := ⟨w.heap.size, 0, none⟩) (Nat.le_refl _) (.int .i64 st)).setCell (p := ⟨w.heap.size, 1, none⟩) (Nat.le_refl _) (.slice A l.length cap)).setCell (p := ⟨w.heap.size, 2, none⟩) (Nat.le_refl _) (.string (S b))
      clear hres hright heq k1 k2 k3 B3
      generalize Rsp.write st l b = t at hcmp ⊢
      have hcmp' : (S t).toList = (S s).toList := by simpa using hcmp
      go_wp2
      refine bodyPost_ret (v := .tuple #[.agg #[.int .i64 st, .slice A l.length cap, .string (S b)], .int .i64 0]) ?_ rfl ⟨st, .slice A l.length cap, l, b, 0, rfl, hown.wr, hbb, .inl ⟨rfl, HN.out⟩⟩
      simp [results, Tryd.results20, go_sem, q0, q1, q2]
    · have HN := Lib.hid (show Rsp.read s = none by rw [HR.out]; simp [heq])
      rw [decide_eq_false heq] at hcmp
      have k1 := B3.set0 (.int .i64 0)
      have k2 := k1.set1 (.slice none 0 0)
      have k3 := k2.set2 (.string ⟨#[]⟩)
      have d1 := k1.c1
      have f1 := k1.fr 1
      have d2 := k2.c2
      have f2 := k2.fr 2
      have q0 := k3.c0
      have q1 := k3.c1
      have q2 := k3.c2
      have hbb := ((hbw3.setCell (p := ⟨w.heap.size, 0, none⟩) (Nat.le_refl _) (.int .i64 0)).setCell (p := ⟨w.heap.size, 1, none⟩) (Nat.le_refl _) (.slice none 0 0)).setCell (p := ⟨w.heap.size, 2, none⟩) (Nat.le_refl _) (.string ⟨#[]⟩)
      clear hres hright heq k1 k2 k3 B3 e0 e1 e2
      generalize Rsp.write st l b = t at hcmp ⊢
      have hcmp' : ¬ (S t).toList = (S s).toList := by simpa using hcmp
      go_wp2
      refine bodyPost_ret (v := .tuple #[.agg #[.int .i64 0, .slice none 0 0, .string (S [])], .int .i64 10]) ?_ rfl ⟨0, .slice none 0 0, [], [], 10, rfl, wr_nil _, hbb, .inr ⟨rfl, HN.out, rfl, rfl, rfl⟩⟩
      simp [results, Tryd.results20, go_sem, q0, q1, q2]
      rfl
end Go.Proofs.YtehgigfngelkjaaDoor
