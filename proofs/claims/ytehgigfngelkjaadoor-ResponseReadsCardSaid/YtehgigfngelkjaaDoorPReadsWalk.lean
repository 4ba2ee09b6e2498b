/- The statement ResponseReads answers true, for any text, where the variables of the library that it reaches read as their texts lay them. -/
import Derived.Test.YtehgigfngelkjaaDoorEv
namespace Go.Proofs.YtehgigfngelkjaaDoor
set_option maxRecDepth 8000
open Go.RowKit

set_option maxHeartbeats 1600000 in
theorem reads_few (t : List UInt8) (W : World) (he : EnvE W) (ht : t.length ≤ 700) :
    Calls Tryd.prog 4 #[.string (S t)] W (AwakePost W) := by
  have htz : (S t).size = t.length := rfl
  go_enter Tryd.func4, Tryd.ntmps4
  go_wp2_with fail
  refine (awake_any W he.env).mono ?_
  rintro e w1 ⟨rfl, hb1⟩
  go_wp2_with fail
  refine (read_any t w1 (he.next hb1) (by omega)).mono ?_
  rintro e w2 ⟨st, v2, l, b, n, rfl, hwr, hb2, hcase⟩
  obtain ⟨A, cap, rfl, hc, h1, h2⟩ := hwr.form
  have hbw2 : Below W.heap.size W w2 := hb1.trans (hb2.mono hb1.size)
  clear hb1 hb2
  go_upto_region 5 with fail
  have B3 : BlkR (w2.alloc (.cells #[.int .i64 st, .slice A l.length cap, .string (S b)] 24)) w2.heap.size (.int .i64 st) (.slice A l.length cap) (.string (S b)) := heap_alloc_new w2 _
  have hb3 : Below w2.heap.size w2 (w2.alloc (.cells #[.int .i64 st, .slice A l.length cap, .string (S b)] 24)) := (Below.refl _ _).alloc (Nat.le_refl _) _
  have hs3 : w2.heap.size < (w2.alloc (.cells #[.int .i64 st, .slice A l.length cap, .string (S b)] 24)).heap.size := by simp
  generalize (w2.alloc (.cells #[.int .i64 st, .slice A l.length cap, .string (S b)] 24)) = w3 at B3 hb3 hs3 ⊢
  have hwr3 := hwr.next hb3
  have hbw3 : Below W.heap.size W w3 := hbw2.trans (hb3.mono hbw2.size)
  clear hwr hc hbw2 hb3
  go_wp2_with fail
  refine (refRead_any t w3 (by omega)).mono ?_
  rintro e w4 ⟨st', v4, l', b', n', rfl, hwr', hb4, hcase'⟩
  have hsame : n = n' ∧ st = st' ∧ l = l' ∧ b = b' := by
    rcases hcase with ⟨a1, a2⟩ | ⟨a1, a2, a3, a4, a5⟩
    · rcases hcase' with ⟨c1, c2⟩ | ⟨c1, c2, c3, c4, c5⟩
      · rw [a2] at c2
        simp only [Option.some.injEq, Prod.mk.injEq] at c2
        exact ⟨by rw [a1, c1], c2⟩
      · rw [a2] at c2; cases c2
    · rcases hcase' with ⟨c1, c2⟩ | ⟨c1, c2, c3, c4, c5⟩
      · rw [a2] at c2; cases c2
      · exact ⟨by rw [a1, c1], by rw [a3, c3], by rw [a4, c4], by rw [a5, c5]⟩
  have hll : l.length ≤ 1099511627776 := by
    rcases hcase with ⟨a1, a2⟩ | ⟨a1, a2, a3, a4, a5⟩
    · obtain ⟨k1, k2⟩ := Rsp.read_some a2
      have := (right_parts k1).2.2.2.1
      omega
    · rw [a4]; simp
  obtain ⟨rfl, rfl, rfl, rfl⟩ := hsame
  obtain ⟨A', cap', rfl, hc', h1', h2'⟩ := hwr'.form
  have B4 : BlkR w4 w2.heap.size (.int .i64 st) (.slice A l.length cap) (.string (S b)) := (hb4.block _ hs3).trans B3
  have hs4 : w2.heap.size < w4.heap.size := Nat.lt_of_lt_of_le hs3 hb4.size
  have hwr4 := hwr3.next hb4
  have hbw4 : Below W.heap.size W w4 := hbw3.trans (hb4.mono hbw3.size)
  clear hcase hcase' hwr3 hb4 B3 hs3 hbw3 hc'
  go_upto_region 6 with fail
  have C5 : BlkR (w4.alloc (.cells #[.int .i64 st, .slice A' l.length cap', .string (S b)] 24)) w4.heap.size (.int .i64 st) (.slice A' l.length cap') (.string (S b)) := heap_alloc_new w4 _
  have hb5 : Below w4.heap.size w4 (w4.alloc (.cells #[.int .i64 st, .slice A' l.length cap', .string (S b)] 24)) := (Below.refl _ _).alloc (Nat.le_refl _) _
  generalize (w4.alloc (.cells #[.int .i64 st, .slice A' l.length cap', .string (S b)] 24)) = w5 at C5 hb5 ⊢
  have B5 : BlkR w5 w2.heap.size (.int .i64 st) (.slice A l.length cap) (.string (S b)) := (hb5.block _ hs4).trans B4
  have hw5 := hwr4.next hb5
  have hw5' := hwr'.next hb5
  have hbw5 : Below W.heap.size W w5 := hbw4.trans (hb5.mono hbw4.size)
  have hSm := same_any st _ l b st _ l b w5 hw5 hw5' hll
  rw [show sameR st l b st l b = true from sameR_is.2 rfl] at hSm
  clear hwr4 hwr' hb5 B4 hs4 hbw4 hw5 hw5' hll h1 h2 h1' h2'
  have b0 := B5.c0
  have b1 := B5.c1
  have b2 := B5.c2
  have c0 := C5.c0
  have c1 := C5.c1
  have c2 := C5.c2
  have hnn : (n == n) = true := by simp
  go_wp2_with fail
  refine hSm.mono ?_
  rintro e w6 ⟨rfl, hb6⟩
  have hbw6 : Below W.heap.size W w6 := hbw5.trans (hb6.mono hbw5.size)
  go_wp2
  go_ret
  exact ⟨rfl, hbw6⟩

theorem responseReads_any (t0 : ByteArray) (W : World) (he : EnvE W) :
    Calls Tryd.prog 4 #[.string t0] W (AwakePost W) := by
  obtain ⟨t, rfl⟩ : ∃ t, t0 = S t := ⟨t0.data.toList, rfl⟩
  by_cases h : t.length ≤ 700
  · exact reads_few t W he h
  · have htz : (S t).size = t.length := rfl
    go_enter Tryd.func4, Tryd.ntmps4
    go_wp2_with fail
    refine (awake_any W he.env).mono ?_
    rintro e w1 ⟨rfl, hb1⟩
    go_wp2
    go_ret
    exact ⟨rfl, hb1⟩
end Go.Proofs.YtehgigfngelkjaaDoor
