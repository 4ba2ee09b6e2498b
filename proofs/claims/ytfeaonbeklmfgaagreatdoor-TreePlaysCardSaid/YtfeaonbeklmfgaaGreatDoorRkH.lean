/- What the document's Comes answers, for any kinds. -/
import Derived.Test.YtfeaonbeklmfgaaGreatDoorRkG
import Derived.Test.YtfeaonbeklmfgaaGreatDoorTkI
namespace Go.Proofs.YtfeaonbeklmfgaaGreatDoor
set_option maxRecDepth 8000
open Go.RowKit

namespace Rk
def prs : List (Int × Int) := [(1, 0), (6, 0), (2, 1), (3, 4), (4, 2), (4, 3), (5, 4)]
theorem comes_prs (k o : Int) : comes k o = decide ((k, o) ∈ prs) := by
  unfold comes prs
  rw [Bool.eq_iff_iff]
  simp
end Rk
/-- The document's pairs, where they lie. -/
theorem prs_cells (w : World) : ∃ w', w' = (((((((w.alloc (.cells #[.int .i64 1, .int .i64 0] 3)).alloc (.cells #[.int .i64 6, .int .i64 0] 3)).alloc (.cells #[.int .i64 2, .int .i64 1] 3)).alloc (.cells #[.int .i64 3, .int .i64 4] 3)).alloc (.cells #[.int .i64 4, .int .i64 2] 3)).alloc (.cells #[.int .i64 4, .int .i64 3] 3)).alloc (.cells #[.int .i64 5, .int .i64 4] 3)).alloc (.cells #[.slice (some ⟨w.heap.size, 0, none⟩) 2 2, .slice (some ⟨w.heap.size + 1, 0, none⟩) 2 2, .slice (some ⟨w.heap.size + 1 + 1, 0, none⟩) 2 2, .slice (some ⟨w.heap.size + 1 + 1 + 1, 0, none⟩) 2 2, .slice (some ⟨w.heap.size + 1 + 1 + 1 + 1, 0, none⟩) 2 2, .slice (some ⟨w.heap.size + 1 + 1 + 1 + 1 + 1, 0, none⟩) 2 2, .slice (some ⟨w.heap.size + 1 + 1 + 1 + 1 + 1 + 1, 0, none⟩) 2 2] 104) ∧ Below w.heap.size w w' ∧
    ∀ j (hj : j < Rk.prs.length), w'.cell? ⟨w.heap.size + 1 + 1 + 1 + 1 + 1 + 1 + 1, j, none⟩ = some (.slice (some ⟨w.heap.size + j, 0, none⟩) 2 2) ∧ w'.cell? ⟨w.heap.size + j, 0, none⟩ = some (.int .i64 Rk.prs[j].1) ∧ w'.cell? ⟨w.heap.size + j, 1, none⟩ = some (.int .i64 Rk.prs[j].2) := by
  obtain ⟨A1, hA1⟩ : ∃ A1, A1 = w.alloc (.cells #[.int .i64 1, .int .i64 0] 3) := ⟨_, rfl⟩
  have z1 : A1.heap.size = w.heap.size + 1 := by rw [hA1]; simp
  have b1 : A1.heap[w.heap.size]? = some (.cells #[.int .i64 1, .int .i64 0] 3 (0, 0)) := by rw [hA1]; exact heap_alloc_new w _
  have g1 : Below w.heap.size w A1 := by rw [hA1]; exact (Below.refl _ _).alloc (Nat.le_refl _) _
  rw [← hA1]
  clear hA1
  obtain ⟨A2, hA2⟩ : ∃ A2, A2 = A1.alloc (.cells #[.int .i64 6, .int .i64 0] 3) := ⟨_, rfl⟩
  have z2 : A2.heap.size = w.heap.size + 1 + 1 := by rw [hA2]; simp [z1]
  have b2 : A2.heap[w.heap.size + 1]? = some (.cells #[.int .i64 6, .int .i64 0] 3 (0, 0)) := by rw [hA2, ← z1]; exact heap_alloc_new A1 _
  have g2 : Below A1.heap.size A1 A2 := by rw [hA2]; exact (Below.refl _ _).alloc (Nat.le_refl _) _
  rw [← hA2]
  clear hA2
  obtain ⟨A3, hA3⟩ : ∃ A3, A3 = A2.alloc (.cells #[.int .i64 2, .int .i64 1] 3) := ⟨_, rfl⟩
  have z3 : A3.heap.size = w.heap.size + 1 + 1 + 1 := by rw [hA3]; simp [z2]
  have b3 : A3.heap[w.heap.size + 1 + 1]? = some (.cells #[.int .i64 2, .int .i64 1] 3 (0, 0)) := by rw [hA3, ← z2]; exact heap_alloc_new A2 _
  have g3 : Below A2.heap.size A2 A3 := by rw [hA3]; exact (Below.refl _ _).alloc (Nat.le_refl _) _
  rw [← hA3]
  clear hA3
  obtain ⟨A4, hA4⟩ : ∃ A4, A4 = A3.alloc (.cells #[.int .i64 3, .int .i64 4] 3) := ⟨_, rfl⟩
  have z4 : A4.heap.size = w.heap.size + 1 + 1 + 1 + 1 := by rw [hA4]; simp [z3]
  have b4 : A4.heap[w.heap.size + 1 + 1 + 1]? = some (.cells #[.int .i64 3, .int .i64 4] 3 (0, 0)) := by rw [hA4, ← z3]; exact heap_alloc_new A3 _
  have g4 : Below A3.heap.size A3 A4 := by rw [hA4]; exact (Below.refl _ _).alloc (Nat.le_refl _) _
  rw [← hA4]
  clear hA4
  obtain ⟨A5, hA5⟩ : ∃ A5, A5 = A4.alloc (.cells #[.int .i64 4, .int .i64 2] 3) := ⟨_, rfl⟩
  have z5 : A5.heap.size = w.heap.size + 1 + 1 + 1 + 1 + 1 := by rw [hA5]; simp [z4]
  have b5 : A5.heap[w.heap.size + 1 + 1 + 1 + 1]? = some (.cells #[.int .i64 4, .int .i64 2] 3 (0, 0)) := by rw [hA5, ← z4]; exact heap_alloc_new A4 _
  have g5 : Below A4.heap.size A4 A5 := by rw [hA5]; exact (Below.refl _ _).alloc (Nat.le_refl _) _
  rw [← hA5]
  clear hA5
  obtain ⟨A6, hA6⟩ : ∃ A6, A6 = A5.alloc (.cells #[.int .i64 4, .int .i64 3] 3) := ⟨_, rfl⟩
  have z6 : A6.heap.size = w.heap.size + 1 + 1 + 1 + 1 + 1 + 1 := by rw [hA6]; simp [z5]
  have b6 : A6.heap[w.heap.size + 1 + 1 + 1 + 1 + 1]? = some (.cells #[.int .i64 4, .int .i64 3] 3 (0, 0)) := by rw [hA6, ← z5]; exact heap_alloc_new A5 _
  have g6 : Below A5.heap.size A5 A6 := by rw [hA6]; exact (Below.refl _ _).alloc (Nat.le_refl _) _
  rw [← hA6]
  clear hA6
  obtain ⟨A7, hA7⟩ : ∃ A7, A7 = A6.alloc (.cells #[.int .i64 5, .int .i64 4] 3) := ⟨_, rfl⟩
  have z7 : A7.heap.size = w.heap.size + 1 + 1 + 1 + 1 + 1 + 1 + 1 := by rw [hA7]; simp [z6]
  have b7 : A7.heap[w.heap.size + 1 + 1 + 1 + 1 + 1 + 1]? = some (.cells #[.int .i64 5, .int .i64 4] 3 (0, 0)) := by rw [hA7, ← z6]; exact heap_alloc_new A6 _
  have g7 : Below A6.heap.size A6 A7 := by rw [hA7]; exact (Below.refl _ _).alloc (Nat.le_refl _) _
  rw [← hA7]
  clear hA7
  obtain ⟨A8, hA8⟩ : ∃ A8, A8 = A7.alloc (.cells #[.slice (some ⟨w.heap.size, 0, none⟩) 2 2, .slice (some ⟨w.heap.size + 1, 0, none⟩) 2 2, .slice (some ⟨w.heap.size + 1 + 1, 0, none⟩) 2 2, .slice (some ⟨w.heap.size + 1 + 1 + 1, 0, none⟩) 2 2, .slice (some ⟨w.heap.size + 1 + 1 + 1 + 1, 0, none⟩) 2 2, .slice (some ⟨w.heap.size + 1 + 1 + 1 + 1 + 1, 0, none⟩) 2 2, .slice (some ⟨w.heap.size + 1 + 1 + 1 + 1 + 1 + 1, 0, none⟩) 2 2] 104) := ⟨_, rfl⟩
  have b8 : A8.heap[w.heap.size + 1 + 1 + 1 + 1 + 1 + 1 + 1]? = some (.cells #[.slice (some ⟨w.heap.size, 0, none⟩) 2 2, .slice (some ⟨w.heap.size + 1, 0, none⟩) 2 2, .slice (some ⟨w.heap.size + 1 + 1, 0, none⟩) 2 2, .slice (some ⟨w.heap.size + 1 + 1 + 1, 0, none⟩) 2 2, .slice (some ⟨w.heap.size + 1 + 1 + 1 + 1, 0, none⟩) 2 2, .slice (some ⟨w.heap.size + 1 + 1 + 1 + 1 + 1, 0, none⟩) 2 2, .slice (some ⟨w.heap.size + 1 + 1 + 1 + 1 + 1 + 1, 0, none⟩) 2 2] 104 (0, 0)) := by rw [hA8, ← z7]; exact heap_alloc_new A7 _
  have g8 : Below A7.heap.size A7 A8 := by rw [hA8]; exact (Below.refl _ _).alloc (Nat.le_refl _) _
  rw [← hA8]
  clear hA8
  have t7 := g8
  have t6 := g7.trans (t7.mono g7.size)
  have t5 := g6.trans (t6.mono g6.size)
  have t4 := g5.trans (t5.mono g5.size)
  have t3 := g4.trans (t4.mono g4.size)
  have t2 := g3.trans (t3.mono g3.size)
  have t1 := g2.trans (t2.mono g2.size)
  have t0 := g1.trans (t1.mono g1.size)
  refine ⟨A8, rfl, t0, fun j hj => ?_⟩
  have h7 : j = 0 ∨ j = 1 ∨ j = 2 ∨ j = 3 ∨ j = 4 ∨ j = 5 ∨ j = 6 := by unfold Rk.prs at hj; simp at hj; omega
  rcases h7 with rfl | rfl | rfl | rfl | rfl | rfl | rfl
  · exact ⟨cell_of_row _ _ 0 _ _ _ b8, cell_of_row _ _ 0 _ _ _ ((t1.block _ (by omega)).trans b1), cell_of_row _ _ 1 _ _ _ ((t1.block _ (by omega)).trans b1)⟩
  · exact ⟨cell_of_row _ _ 1 _ _ _ b8, cell_of_row _ _ 0 _ _ _ ((t2.block _ (by omega)).trans b2), cell_of_row _ _ 1 _ _ _ ((t2.block _ (by omega)).trans b2)⟩
  · exact ⟨cell_of_row _ _ 2 _ _ _ b8, cell_of_row _ _ 0 _ _ _ ((t3.block _ (by omega)).trans b3), cell_of_row _ _ 1 _ _ _ ((t3.block _ (by omega)).trans b3)⟩
  · exact ⟨cell_of_row _ _ 3 _ _ _ b8, cell_of_row _ _ 0 _ _ _ ((t4.block _ (by omega)).trans b4), cell_of_row _ _ 1 _ _ _ ((t4.block _ (by omega)).trans b4)⟩
  · exact ⟨cell_of_row _ _ 4 _ _ _ b8, cell_of_row _ _ 0 _ _ _ ((t5.block _ (by omega)).trans b5), cell_of_row _ _ 1 _ _ _ ((t5.block _ (by omega)).trans b5)⟩
  · exact ⟨cell_of_row _ _ 5 _ _ _ b8, cell_of_row _ _ 0 _ _ _ ((t6.block _ (by omega)).trans b6), cell_of_row _ _ 1 _ _ _ ((t6.block _ (by omega)).trans b6)⟩
  · exact ⟨cell_of_row _ _ 6 _ _ _ b8, cell_of_row _ _ 0 _ _ _ ((t7.block _ (by omega)).trans b7), cell_of_row _ _ 1 _ _ _ ((t7.block _ (by omega)).trans b7)⟩
set_option maxHeartbeats 3200000 in
theorem refComes_any (k o : Int) (w : World) :
    Calls Tryz.prog 61 #[.int .i64 k, .int .i64 o] w fun e w' => e = .returned (.bool (Rk.comes k o)) ∧ Below w.heap.size w w' := by
  obtain ⟨w1, hw1, hb1, hc1⟩ := prs_cells w
  have HB := Lib.hid hb1
  have HC := Lib.hid hc1
  have HM := Lib.hid (Rk.comes_prs k o)
  have hl : Rk.prs.length = 7 := rfl
  generalize Rk.comes k o = c at HM ⊢
  clear hb1 hc1
  go_enter Tryz.func61, Tryz.ntmps61
  go_wp2_with fail
  rw [← hw1]
  clear hw1
  generalize Rk.prs = T at HM HC hl
  go_loopw [6] (fun iv wr => ∃ j : Nat, j ≤ 7 ∧ iv = .int .i64 (j : Int) ∧ wr = w1 ∧ (k, o) ∉ T.take j) (fun iv _ => 7 - (intOf iv).toNat)
  case atStart => exact ⟨0, Nat.zero_le _, rfl, rfl, by simp⟩
  case round =>
    obtain ⟨j, hj, rfl, rfl, hno⟩ := hrel
    have HNO := Lib.hid hno
    clear hno
    by_cases hlt : j < 7
    · obtain ⟨c0, c1, c2⟩ := HC.out j (by omega)
      have HT : Hid (T.take (j + 1) = T.take j ++ [T[j]]) := Lib.hid (List.take_succ_eq_append_getElem (by omega))
      have HM2 : Hid (T[j] ∈ T) := Lib.hid (List.getElem_mem _)
      generalize T[j] = x at c1 c2 HT HM2
      obtain ⟨a, b⟩ := x
      dsimp only at c1 c2
      have hkI : (j : Int) < 7 := by omega
      have hkJ : (0 : Int) ≤ (j : Int) := by omega
      by_cases ha : a = k
      · by_cases hb : b = o
        · subst ha hb
          go_wp2_with fail
          go_ret
          exact ⟨ret_bool (by rw [HM.out, decide_eq_true HM2.out]), HB.out⟩
        · subst ha
          have hb' : (b == o) = false := by simpa using hb
          go_wp2_with fail
          go_roundw
          case rel =>
            refine ⟨j + 1, by omega, by go_num, by first | rfl | trivial, ?_⟩
            rw [HT.out, List.mem_append]
            rintro (h | h)
            · exact HNO.out h
            · simp at h; exact hb h.symm
          case measure => simp [intOf]; omega
      · have ha' : (a == k) = false := by simpa using ha
        go_wp2_with fail
        go_roundw
        case rel =>
          refine ⟨j + 1, by omega, by go_num, by first | rfl | trivial, ?_⟩
          rw [HT.out, List.mem_append]
          rintro (h | h)
          · exact HNO.out h
          · simp at h; exact ha h.1.symm
        case measure => simp [intOf]; omega
    · have hj7 : j = 7 := by omega
      subst hj7
      have hF : Hid (c = false) := Lib.hid (by rw [HM.out, decide_eq_false]; have := HNO.out; rwa [List.take_of_length_le (by omega)] at this)
      go_wp2_with fail
      go_ret
      exact ⟨ret_bool hF.out.symm, HB.out⟩
end Go.Proofs.YtfeaonbeklmfgaaGreatDoor
