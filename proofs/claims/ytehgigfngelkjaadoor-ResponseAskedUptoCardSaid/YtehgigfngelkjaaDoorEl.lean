/- The statements' awake answers true, where the variables of the library that it reaches read as their texts lay them. -/
import Derived.Test.YtehgigfngelkjaaDoorEk
import Derived.Test.YtehgigfngelkjaaDoorEj
import Derived.Laws.OwnMore
namespace Go.Proofs.YtehgigfngelkjaaDoor
set_option maxRecDepth 8000
open Go.RowKit

/-- What Write asks of a row of pairs. -/
structure Wr (w : World) (v : Value) (l : List Pct.PairL) : Prop where
  form : ∃ A cap, v = .slice A l.length cap ∧ PCells w w.heap.size A l ∧ l.length ≤ cap ∧ (A = none → cap = 0)
theorem PRow.wr {base : Nat} {w : World} {v : Value} {l : List Pct.PairL} (h : PRow base w v l) : Wr w v l := by
  obtain ⟨A, cap, hv, hc⟩ := h.reads
  refine ⟨A, cap, hv, hc, ?_⟩
  rcases h.2 with ⟨h1, h2⟩ | ⟨g, cap', cur, h1, _, _, h2, _⟩
  · rw [h1] at hv
    injection hv with e1 e2 e3
    subst e1 e3
    exact ⟨by omega, fun _ => rfl⟩
  · rw [h1] at hv
    injection hv with e1 e2 e3
    subst e1 e3
    exact ⟨h2, fun h => by cases h⟩
theorem Wr.next {w w' : World} {v : Value} {l : List Pct.PairL} (h : Wr w v l) (hb : Below w.heap.size w w') : Wr w' v l := by
  obtain ⟨A, cap, hv, hc, h1, h2⟩ := h.form
  exact ⟨A, cap, hv, hc.next hb, h1, h2⟩
theorem write_to (s : Int) (v : Value) (l : List Pct.PairL) (b : List UInt8) (w : World) (he : EnvC w) (hs : (Lit.int .i64 s).wf = true) (hv : Wr w v l) (hq : ∀ k (h : k < l.length), l[k].1.length ≤ 1073741824 ∧ l[k].2.length ≤ 1073741824) :
    Calls Tryd.prog 11 #[rspV s v b] w fun e w' => e = .returned (writeRes s l b) ∧ Below w.heap.size w w' := by
  obtain ⟨A, cap, rfl, hc, h1, h2⟩ := hv.form
  exact write_any s A cap l b w he hs hc h1 h2 hq

abbrev tPlain : List UInt8 := [116, 101, 120, 116, 47, 112, 108, 97, 105, 110]
abbrev tNo : List UInt8 := [110, 111]
abbrev tTo : List UInt8 := [104, 116, 116, 112, 58, 47, 47, 120, 47]
abbrev tA1 : List UInt8 := [97, 61, 49]
abbrev lA : List Pct.PairL := [(kindName, tPlain)]
theorem writeA : writeRes 200 lA tNo = .tuple #[.string ⟨([72, 84, 84, 80, 47, 49, 46, 49, 32, 50, 48, 48, 32, 79, 75, 13, 10, 67, 111, 110, 116, 101, 110, 116, 45, 84, 121, 112, 101, 58, 32, 116, 101].append [120, 116, 47, 112, 108, 97, 105, 110, 13, 10, 67, 111, 110, 116, 101, 110, 116, 45, 76, 101, 110, 103, 116, 104, 58, 32, 50, 13, 10, 13, 10, 110, 111]).toArray⟩, .int .i64 0] := by
  have h : Rsp.right 200 lA tNo = true := by decide +kernel
  have h2 : Rsp.write 200 lA tNo = [72, 84, 84, 80, 47, 49, 46, 49, 32, 50, 48, 48, 32, 79, 75, 13, 10, 67, 111, 110, 116, 101, 110, 116, 45, 84, 121, 112, 101, 58, 32, 116, 101].append [120, 116, 47, 112, 108, 97, 105, 110, 13, 10, 67, 111, 110, 116, 101, 110, 116, 45, 76, 101, 110, 103, 116, 104, 58, 32, 50, 13, 10, 13, 10, 110, 111] := by decide +kernel
  unfold writeRes
  rw [if_pos h, h2]
  rfl
theorem writeB : writeRes 302 (Rsp.foundL tTo [tA1]) [] = .tuple #[.string ⟨([72, 84, 84, 80, 47, 49, 46, 49, 32, 51, 48, 50, 32, 70, 111, 117, 110, 100, 13, 10, 76, 111, 99, 97, 116, 105, 111, 110, 58, 32, 104, 116, 116, 112, 58, 47, 47, 120, 47].append [13, 10, 83, 101, 116, 45, 67, 111, 111, 107, 105, 101, 58, 32, 97, 61, 49, 13, 10, 67, 111, 110, 116, 101, 110, 116, 45, 76, 101, 110, 103, 116, 104, 58, 32, 48, 13, 10, 13, 10]).toArray⟩, .int .i64 0] := by
  have h : Rsp.right 302 (Rsp.foundL tTo [tA1]) [] = true := by decide +kernel
  have h2 : Rsp.write 302 (Rsp.foundL tTo [tA1]) [] = [72, 84, 84, 80, 47, 49, 46, 49, 32, 51, 48, 50, 32, 70, 111, 117, 110, 100, 13, 10, 76, 111, 99, 97, 116, 105, 111, 110, 58, 32, 104, 116, 116, 112, 58, 47, 47, 120, 47].append [13, 10, 83, 101, 116, 45, 67, 111, 111, 107, 105, 101, 58, 32, 97, 61, 49, 13, 10, 67, 111, 110, 116, 101, 110, 116, 45, 76, 101, 110, 103, 116, 104, 58, 32, 48, 13, 10, 13, 10] := by decide +kernel
  unfold writeRes
  rw [if_pos h, h2]
  rfl

set_option maxHeartbeats 1600000 in
theorem awake_any (w : World) (he : EnvC w) : Calls Tryd.prog 9 #[] w (AwakePost w) := by
  go_enter Tryd.func9, Tryd.ntmps9
  go_wp2_with fail
  refine (page_any 200 tPlain tNo w).mono ?_
  rintro e w1 ⟨rfl, hbk1, hb1⟩
  have hs1 : w.heap.size + 1 < w1.heap.size := by
    rcases Nat.lt_or_ge (w.heap.size + 1) w1.heap.size with h | h
    · exact h
    · rw [Array.getElem?_eq_none h] at hbk1; cases hbk1
  have hr1 : PRow 0 w1 (.slice (some ⟨w.heap.size + 1, 0, none⟩) 1 1) lA := ⟨rfl, .inr ⟨_, 1, _, rfl, Nat.zero_le _, hbk1, Nat.le_refl _, by unfold maxLen; omega, rfl, rfl⟩⟩
  have hw1 := hr1.wr
  have he1 := he.next hb1
  clear hr1 hbk1 hs1
  go_wp2_with fail
  refine (write_to 200 _ lA tNo w1 he1 (by decide) hw1 (by decide)).mono ?_
  rintro e w2 ⟨rfl, hb2⟩
  rw [writeA]
  have hbw2 : Below w.heap.size w w2 := hb1.trans (hb2.mono hb1.size)
  have he2 := he.next hbw2
  clear hw1 he1 hb1 hb2
  go_wp2_with fail
  refine (found_any tTo _ 1 [tA1] _ (fun _ => ⟨w2.heap.size, 0, rfl, by simp, fun k hk => by
    obtain rfl : k = 0 := by simpa using hk
    exact cell_of_row _ w2.heap.size 0 _ _ _ (heap_alloc_new w2 _)⟩) (by decide)).mono ?_
  rintro e w3 ⟨v3, rfl, hr3, hb3⟩
  have hw3 := hr3.wr
  have hbw3 : Below w.heap.size w w3 := (hbw2.alloc hbw2.size _).trans (hb3.mono (by have := hbw2.size; simp; omega))
  have he3 := he.next hbw3
  clear hr3 hb3 hbw2 he2
  go_wp2_with fail
  refine (write_to 302 v3 (Rsp.foundL tTo [tA1]) [] w3 he3 (by decide) hw3 (by decide)).mono ?_
  rintro e w4 ⟨rfl, hb4⟩
  rw [writeB]
  have hbw4 : Below w.heap.size w w4 := hbw3.trans (hb4.mono hbw3.size)
  clear hw3 he3 hbw3 hb4
  go_wp2
  go_ret
  exact ⟨rfl, hbw4⟩
end Go.Proofs.YtehgigfngelkjaaDoor
