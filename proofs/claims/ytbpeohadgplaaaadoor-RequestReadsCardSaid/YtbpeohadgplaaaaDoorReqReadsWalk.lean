/- What the statement RequestReads answers: true, for any bytes, where the variables that it reaches read as their texts lay them. -/
import Derived.Test.YtbpeohadgplaaaaDoorRBackWalk
import Derived.Test.YtbpeohadgplaaaaDoorRr
namespace Go.Proofs.YtbpeohadgplaaaaDoor
set_option maxRecDepth 8000
open Go.RowKit

theorem same_none (w : World) : Calls Tryd.prog 18 #[.agg #[.string ⟨#[]⟩, .string ⟨#[]⟩, .slice none 0 0, .string ⟨#[]⟩], .agg #[.string ⟨#[]⟩, .string ⟨#[]⟩, .slice none 0 0, .string ⟨#[]⟩]] w (Told w (.returned (.bool true))) :=
  same_yes [] [] none none 0 0 [] [] w (fun h => absurd h (by simp)) (fun h => absurd h (by simp)) (by simp)
theorem refParse_ok (l m t : List UInt8) (hs : List Pct.PairL) (b : List UInt8) (w : World) (he : EnvR w) (h : Req.parse l = .ok ⟨m, t, hs, b⟩) :
    Calls Tryd.prog 17 #[.string (S l)] w fun e w' => ∃ A cap, e = .returned (.tuple #[.agg #[.string (S m), .string (S t), .slice A hs.length cap, .string (S b)], .int .i64 0]) ∧ PCells w' w'.heap.size A hs ∧ Below w.heap.size w w' :=
  (refParse_any l w he).mono fun e w' hp => by rw [h] at hp; exact hp
theorem refParse_err (l : List UInt8) (n : Nat) (w : World) (he : EnvR w) (h : Req.parse l = .error n) :
    Calls Tryd.prog 17 #[.string (S l)] w fun e w' => e = .returned (.tuple #[.agg #[.string ⟨#[]⟩, .string ⟨#[]⟩, .slice none 0 0, .string ⟨#[]⟩], .int .i64 n]) ∧ Below w.heap.size w w' :=
  (refParse_any l w he).mono fun e w' hp => by rw [h] at hp; exact hp
theorem parse_heads {l m t b : List UInt8} {hs : List Pct.PairL} (h : Req.parse l = .ok ⟨m, t, hs, b⟩) : hs.length ≤ 32 :=
  (Req.right_parts (Req.parse_right h).1).1

set_option maxHeartbeats 1600000 in
theorem reads_both (l : List UInt8) (w : World) (he : EnvR w) (hl : ¬ (700 < l.length ∧ l.length ≤ 4096)) : Calls Tryd.prog 4 #[.string (S l)] w (AwakePost w) := by
  have hz : (S l).size = l.length := rfl
  have hcase : (S l).size ≤ 700 ∨ (700 < (S l).size ∧ ¬ (S l).size ≤ 4096) := by omega
  clear hz hl
  cases hp : Req.parse l with
  | error n =>
    have HP := Lib.hid hp
    clear hp
    have en : ((n : Int) == (n : Int)) = true := by simp
    rcases hcase with h7 | ⟨h7, h4⟩
    · go_enter Tryd.func4, Tryd.ntmps4
      go_wp2_with fail
      refine (awake_req w he).mono ?_
      rintro e w1 ⟨rfl, hb1⟩
      go_wp2_with fail
      refine (reqParse_err l n w1 (he.next hb1) HP.out).mono ?_
      rintro e w2 ⟨rfl, hb2⟩
      have hb2' := below_step hb1 hb2
      have hb3 := hb2'.alloc hb2'.size (.cells #[.string ⟨#[]⟩, .string ⟨#[]⟩, .slice none 0 0, .string ⟨#[]⟩] 33)
      have he3 := he.next hb3
      have B3 : BlkR (w2.alloc (.cells #[.string ⟨#[]⟩, .string ⟨#[]⟩, .slice none 0 0, .string ⟨#[]⟩] 33)) w2.heap.size [] [] (.slice none 0 0) [] := BlkR.new w2 [] [] [] _
      have hz3 : w2.heap.size < (w2.alloc (.cells #[.string ⟨#[]⟩, .string ⟨#[]⟩, .slice none 0 0, .string ⟨#[]⟩] 33)).heap.size := by simp
      go_wp2_with fail
      generalize w2.alloc (.cells #[.string ⟨#[]⟩, .string ⟨#[]⟩, .slice none 0 0, .string ⟨#[]⟩] 33) = w3 at hb3 he3 B3 hz3
      refine (refParse_err l n w3 he3 HP.out).mono ?_
      rintro e w4 ⟨rfl, hb4⟩
      have B4 := B3.below hb4 hz3
      have hb4' := below_step hb3 hb4
      have B5 := B4.below (below_alloc w4 (.cells #[.string ⟨#[]⟩, .string ⟨#[]⟩, .slice none 0 0, .string ⟨#[]⟩] 33)) (Nat.lt_of_lt_of_le hz3 hb4.size)
      have c0 : (w4.alloc (.cells #[.string ⟨#[]⟩, .string ⟨#[]⟩, .slice none 0 0, .string ⟨#[]⟩] 33)).cell? ⟨w2.heap.size, 0, none⟩ = some (.string ⟨#[]⟩) := B5.c0
      have c1 : (w4.alloc (.cells #[.string ⟨#[]⟩, .string ⟨#[]⟩, .slice none 0 0, .string ⟨#[]⟩] 33)).cell? ⟨w2.heap.size, 1, none⟩ = some (.string ⟨#[]⟩) := B5.c1
      have c2 : (w4.alloc (.cells #[.string ⟨#[]⟩, .string ⟨#[]⟩, .slice none 0 0, .string ⟨#[]⟩] 33)).cell? ⟨w2.heap.size, 2, none⟩ = some (.slice none 0 0) := B5.c2
      have c3 : (w4.alloc (.cells #[.string ⟨#[]⟩, .string ⟨#[]⟩, .slice none 0 0, .string ⟨#[]⟩] 33)).cell? ⟨w2.heap.size, 3, none⟩ = some (.string ⟨#[]⟩) := B5.c3
      clear B3 B4 B5
      go_wp2_with fail
      refine (same_none _).mono ?_
      rintro e w6 ⟨rfl, hb6⟩
      go_wp2
      go_ret
      exact ⟨rfl, below_step (hb4'.alloc hb4'.size _) hb6⟩
    · go_enter Tryd.func4, Tryd.ntmps4
      go_wp2_with fail
      refine (awake_req w he).mono ?_
      rintro e w1 ⟨rfl, hb1⟩
      go_wp2_with fail
      refine (reqParse_err l n w1 (he.next hb1) HP.out).mono ?_
      rintro e w2 ⟨rfl, hb2⟩
      have hb2' := below_step hb1 hb2
      have hb3 := hb2'.alloc hb2'.size (.cells #[.string ⟨#[]⟩, .string ⟨#[]⟩, .slice none 0 0, .string ⟨#[]⟩] 33)
      have he3 := he.next hb3
      have B3 : BlkR (w2.alloc (.cells #[.string ⟨#[]⟩, .string ⟨#[]⟩, .slice none 0 0, .string ⟨#[]⟩] 33)) w2.heap.size [] [] (.slice none 0 0) [] := BlkR.new w2 [] [] [] _
      have hz3 : w2.heap.size < (w2.alloc (.cells #[.string ⟨#[]⟩, .string ⟨#[]⟩, .slice none 0 0, .string ⟨#[]⟩] 33)).heap.size := by simp
      go_wp2_with fail
      generalize w2.alloc (.cells #[.string ⟨#[]⟩, .string ⟨#[]⟩, .slice none 0 0, .string ⟨#[]⟩] 33) = w3 at hb3 he3 B3 hz3
      refine (refParse_err l n w3 he3 HP.out).mono ?_
      rintro e w4 ⟨rfl, hb4⟩
      have B4 := B3.below hb4 hz3
      have hb4' := below_step hb3 hb4
      have B5 := B4.below (below_alloc w4 (.cells #[.string ⟨#[]⟩, .string ⟨#[]⟩, .slice none 0 0, .string ⟨#[]⟩] 33)) (Nat.lt_of_lt_of_le hz3 hb4.size)
      have c0 : (w4.alloc (.cells #[.string ⟨#[]⟩, .string ⟨#[]⟩, .slice none 0 0, .string ⟨#[]⟩] 33)).cell? ⟨w2.heap.size, 0, none⟩ = some (.string ⟨#[]⟩) := B5.c0
      have c1 : (w4.alloc (.cells #[.string ⟨#[]⟩, .string ⟨#[]⟩, .slice none 0 0, .string ⟨#[]⟩] 33)).cell? ⟨w2.heap.size, 1, none⟩ = some (.string ⟨#[]⟩) := B5.c1
      have c2 : (w4.alloc (.cells #[.string ⟨#[]⟩, .string ⟨#[]⟩, .slice none 0 0, .string ⟨#[]⟩] 33)).cell? ⟨w2.heap.size, 2, none⟩ = some (.slice none 0 0) := B5.c2
      have c3 : (w4.alloc (.cells #[.string ⟨#[]⟩, .string ⟨#[]⟩, .slice none 0 0, .string ⟨#[]⟩] 33)).cell? ⟨w2.heap.size, 3, none⟩ = some (.string ⟨#[]⟩) := B5.c3
      clear B3 B4 B5
      go_wp2_with fail
      refine (same_none _).mono ?_
      rintro e w6 ⟨rfl, hb6⟩
      go_wp2
      go_ret
      exact ⟨rfl, below_step (hb4'.alloc hb4'.size _) hb6⟩
  | ok q =>
    obtain ⟨m, t, hs, b⟩ := q
    have hn := parse_heads hp
    have h7 : (S l).size ≤ 700 := by
      rcases hcase with h7 | ⟨_, h4⟩
      · exact h7
      · exfalso
        have : (S l).size = l.length := rfl
        rw [parse_1 (by omega)] at hp
        cases hp
    have HP := Lib.hid hp
    clear hp hcase
    go_enter Tryd.func4, Tryd.ntmps4
    go_wp2_with fail
    refine (awake_req w he).mono ?_
    rintro e w1 ⟨rfl, hb1⟩
    go_wp2_with fail
    refine (reqParse_ok l m t hs b w1 (he.next hb1) HP.out).mono ?_
    rintro e w2 ⟨A2, cap2, rfl, hp2, hb2⟩
    have h2 := HasR.new (m := m) (t := t) (b := b) (cap := cap2) hp2
    have hbx := below_alloc w2 (.cells #[.string (S m), .string (S t), .slice A2 hs.length cap2, .string (S b)] 33)
    have hb3 := below_step (below_step hb1 hb2) hbx
    have he3 := he.next hb3
    clear hb1 hb2 hp2 hbx
    go_wp2_with fail
    generalize w2.alloc (.cells #[.string (S m), .string (S t), .slice A2 hs.length cap2, .string (S b)] 33) = w3 at h2 hb3 he3
    refine (refParse_ok l m t hs b w3 he3 HP.out).mono ?_
    rintro e w4 ⟨A4, cap4, rfl, hp4, hb4⟩
    have h4 := h2.next hb4
    have hb4' := below_step hb3 hb4
    have g4 := HasR.new (m := m) (t := t) (b := b) (cap := cap4) hp4
    have hbx := below_alloc w4 (.cells #[.string (S m), .string (S t), .slice A4 hs.length cap4, .string (S b)] 33)
    have h5 := h4.next hbx
    have hb5 := below_step hb4' hbx
    clear h2 h4 hb3 hb4 hb4' hp4 hbx he3
    obtain ⟨c0, c1, c2, c3⟩ := h5.cells
    obtain ⟨d0, d1, d2, d3⟩ := g4.cells
    go_wp2_with fail
    generalize w4.alloc (.cells #[.string (S m), .string (S t), .slice A4 hs.length cap4, .string (S b)] 33) = w5 at h5 g4 hb5 c0 c1 c2 c3 d0 d1 d2 d3
    refine (same_yes m t A2 A4 cap2 cap4 hs b w5 h5.row g4.row (by omega)).mono ?_
    rintro e w6 ⟨rfl, hb6⟩
    go_wp2
    go_ret
    exact ⟨rfl, below_step hb5 hb6⟩

theorem requestReads_any (s : ByteArray) (w : World) (he : EnvR w) : Calls Tryd.prog 4 #[.string s] w (AwakePost w) := by
  obtain ⟨l, hl⟩ : ∃ l, l = s.data.toList := ⟨_, rfl⟩
  have hsl : s = S l := by rw [hl]; rfl
  clear hl
  subst hsl
  by_cases h : 700 < l.length ∧ l.length ≤ 4096
  · have h1 : 700 < (S l).size := h.1
    have h2 : (S l).size ≤ 4096 := h.2
    go_enter Tryd.func4, Tryd.ntmps4
    go_wp2_with fail
    refine (awake_req w he).mono ?_
    rintro e w1 ⟨rfl, hb1⟩
    go_wp2
    go_ret
    exact ⟨rfl, hb1⟩
  · exact reads_both l w he h
end Go.Proofs.YtbpeohadgplaaaaDoor
