/- What the statement RequestArgs answers: true, for any two slices of pairs, where the variables that it reaches read as their texts lay them. -/
import Derived.Test.YtbpeohadgplaaaaDoorRh
import Derived.Test.YtbpeohadgplaaaaDoorRefE
namespace Go.Proofs.YtbpeohadgplaaaaDoor
set_option maxRecDepth 8000
open Go.RowKit

theorem pcells_reads {w : World} {B : Nat} {A : Option Addr} {l : List Pct.PairL} (h : PCells w B A l) (cap : Nat) : PReads w B (.slice A l.length cap) l := ⟨A, cap, rfl, h⟩
theorem few_to (A : Option Addr) (cap : Nat) (l : List Pct.PairL) (o : Bool) (w : World) (hl : PCells w w.heap.size A l) (hm : l.length ≤ 9223372036854775807) (h : fewB l = o) :
    Calls Tryd.prog 35 #[.slice A l.length cap] w fun e w' => e = .returned (.bool o) ∧ w = w' :=
  (few_any A cap l w hl hm).mono fun e w' ⟨he, hw⟩ => ⟨by rw [he, h], hw⟩
theorem few_write {l : List Pct.PairL} (h : fewB l = true) : (Pct.write l).length ≤ 18100 := by
  unfold fewB at h
  simp only [Bool.and_eq_true, decide_eq_true_eq] at h
  have := write_len60 l (fun q hq => by
    have := List.all_eq_true.1 h.1 q hq
    unfold few1 at this
    simpa using this)
  omega
theorem cut_x (x : List UInt8) : Pct.cutAt 63 ([47, 120, 63] ++ x) = ([47, 120], x, true) := by
  rw [show ([47, 120, 63] : List UInt8) ++ x = [47, 120] ++ 63 :: x from rfl]
  exact Pct.cutAt_first 63 x [47, 120] (by decide)
theorem args_get (a b : List Pct.PairL) (ha : a.length ≤ 10) : argsP [71, 69, 84] ([47, 120, 63] ++ Pct.write a) (Pct.write b) = .ok a :=
  args_2 (cut_x _) (Pct.form_write a (by omega)) (by decide)
theorem args_post (a b : List Pct.PairL) (ha : a.length ≤ 10) (hb : b.length ≤ 10) : argsP [80, 79, 83, 84] ([47, 120, 63] ++ Pct.write a) (Pct.write b) = .ok (a ++ b) := by
  have := args_4 (t := [47, 120, 63] ++ Pct.write a) (b := Pct.write b) (cut_x _) (Pct.form_write a (by omega)) (Pct.form_write b (by omega))
  rw [if_neg (by omega)] at this
  exact this
theorem reqArgs_ok (m t : List UInt8) (A : Option Addr) (n cap : Nat) (b : List UInt8) (x : List Pct.PairL) (w : World) (hd : Digs w) (hs : t.length ≤ 1073741824) (hbl : b.length ≤ 1073741824) (h : argsP m t b = .ok x) :
    Calls Tryd.prog 22 #[.agg #[.string (S m), .string (S t), .slice A n cap, .string (S b)]] w fun e w' => ∃ v, e = .returned (.tuple #[v, .int .i64 0]) ∧ PRow w.heap.size w' v x ∧ Below w.heap.size w w' :=
  (reqArgs_any m t A n cap b w hd hs hbl).mono fun e w' hp => by rw [h] at hp; exact hp

set_option maxHeartbeats 1600000 in
theorem requestArgs_few (A1 A2 : Option Addr) (cap1 cap2 : Nat) (a b : List Pct.PairL) (post : Bool) (w : World) (he : EnvR w) (h1 : PCells w w.heap.size A1 a) (h2 : PCells w w.heap.size A2 b) (hf1 : fewB a = true) (hf2 : fewB b = true) (ha : a.length ≤ 10) (hb : b.length ≤ 10) :
    Calls Tryd.prog 9 #[.slice A1 a.length cap1, .slice A2 b.length cap2, .bool post] w (AwakePost w) := by
  have hl1 := few_write hf1
  have hl2 := few_write hf2
  have HF1 := Lib.hid hf1
  have HF2 := Lib.hid hf2
  have HG := Lib.hid (args_get a b ha)
  have HP := Lib.hid (args_post a b ha hb)
  have HW1 := Lib.hid (fun w' h => refWrite_any A1 cap1 a w' h hf1)
  have HW2 := Lib.hid (fun w' h => refWrite_any A2 cap2 b w' h hf2)
  obtain ⟨x, hx⟩ : ∃ x, x = Pct.write a := ⟨_, rfl⟩
  obtain ⟨y, hy⟩ : ∃ y, y = Pct.write b := ⟨_, rfl⟩
  rw [← hx] at hl1 HG HP HW1
  rw [← hy] at hl2 HG HP HW2
  clear hf1 hf2 hx hy
  have hadd : ∀ w' : World, (Op.stringOp .add ⟨#[47, 120, 63]⟩ (S x)).run Tryd.prog w' = .ok (.string (S ([47, 120, 63] ++ x))) w' := fun w' => run_add_S w' [47, 120, 63] x (by simp; omega)
  have HCX := Lib.hid (show (Pct.cutAt 63 ([47, 120, 63] ++ x)).1 = [47, 120] by rw [cut_x])
  obtain ⟨t, ht⟩ : ∃ t, t = [47, 120, 63] ++ x := ⟨_, rfl⟩
  have htl : t.length ≤ 18103 := by rw [ht]; simp; omega
  rw [← ht] at hadd HG HP HCX
  clear ht
  go_enter Tryd.func9, Tryd.ntmps9
  go_wp2_with fail
  refine (awake_req w he).mono ?_
  rintro e w1 ⟨rfl, hb1⟩
  have he1 := he.next hb1
  have p1 := h1.next hb1
  have p2 := h2.next hb1
  clear h1 h2
  go_wp2_with fail
  refine (few_to A1 cap1 a true w1 p1 (by omega) HF1.out).mono ?_
  rintro e w' ⟨rfl, rfl⟩
  go_wp2_with fail
  refine (few_to A2 cap2 b true w1 p2 (by omega) HF2.out).mono ?_
  rintro e w' ⟨rfl, rfl⟩
  go_wp2_with fail
  refine (HW1.out w1 p1).mono ?_
  rintro e w2 ⟨rfl, hb2⟩
  have he2 := he1.next hb2
  have p1' := p1.next hb2
  have p2' := p2.next hb2
  have hb2' := below_step hb1 hb2
  clear p1 p2 hb1 hb2 he1
  go_wp2_with fail
  refine (HW2.out w2 p2').mono ?_
  rintro e w3 ⟨rfl, hb3⟩
  have he3 := he2.next hb3
  have q1 := p1'.next hb3
  have q2 := p2'.next hb3
  have hb3' := below_step hb2' hb3
  clear p1' p2' hb2' hb3 he2
  cases post with
  | false =>
    have hbx := below_alloc w3 (.cells #[.string ⟨#[71, 69, 84]⟩, .string (S t), .slice none 0 0, .string (S y)] 33)
    have B3 : BlkR (w3.alloc (.cells #[.string ⟨#[71, 69, 84]⟩, .string (S t), .slice none 0 0, .string (S y)] 33)) w3.heap.size [71, 69, 84] t (.slice none 0 0) y := BlkR.new w3 [71, 69, 84] t y (.slice none 0 0)
    have hz3 : w3.heap.size < (w3.alloc (.cells #[.string ⟨#[71, 69, 84]⟩, .string (S t), .slice none 0 0, .string (S y)] 33)).heap.size := by simp
    have he4 := he3.next hbx
    have r1 := q1.next hbx
    have hb4 := below_step hb3' hbx
    have d0 := B3.c0
    have d1 := B3.c1
    have d2 := B3.c2
    have d3 := B3.c3
    clear he3 q1 q2 hb3' hbx
    go_wp2_with fail
    generalize w3.alloc (.cells #[.string ⟨#[71, 69, 84]⟩, .string (S t), .slice none 0 0, .string (S y)] 33) = w4 at B3 hz3 he4 r1 hb4 d0 d1 d2 d3
    clear d0 d1 d2 d3
    refine (reqArgs_ok [71, 69, 84] t none 0 0 y a w4 he4.digs (by omega) (by omega) HG.out).mono ?_
    rintro e w5 ⟨v5, rfl, hr5, hb5⟩
    have B5 := B3.below hb5 hz3
    have hz5 := Nat.lt_of_lt_of_le hz3 hb5.size
    have s1 := r1.next hb5
    have hb5' := below_step hb4 hb5
    have hr5' := hr5.reads
    clear B3 hz3 r1 hb4 hb5 hr5 he4
    go_wp2_with fail
    refine (pairs_any v5 _ a a w5 hr5' (pcells_reads s1 cap1) (by omega)).mono ?_
    rintro e w6 ⟨rfl, n, rfl⟩
    rw [show decide (a = a) = true from decide_eq_true rfl]
    have hb6 := below_drewN (Below.refl w5.heap.size w5) n
    have B6 := B5.below hb6 hz5
    have hb6' := below_step hb5' hb6
    have d0 := B6.c0
    have d1 := B6.c1
    have d2 := B6.c2
    have d3 := B6.c3
    go_wp2_with fail
    refine (reqPath_any [71, 69, 84] t none 0 0 y _ (by omega)).mono ?_
    rintro e w7 ⟨rfl, hb7⟩
    rw [HCX.out]
    have hS := S_list
    go_wp2
    go_ret
    exact ⟨rfl, below_step hb6' hb7⟩
  | true =>
    have hbx := below_alloc w3 (.cells #[.string ⟨#[80, 79, 83, 84]⟩, .string (S t), .slice none 0 0, .string (S y)] 33)
    have B3 : BlkR (w3.alloc (.cells #[.string ⟨#[80, 79, 83, 84]⟩, .string (S t), .slice none 0 0, .string (S y)] 33)) w3.heap.size [80, 79, 83, 84] t (.slice none 0 0) y := BlkR.new w3 [80, 79, 83, 84] t y (.slice none 0 0)
    have hz3 : (w3.alloc (.cells #[.string ⟨#[80, 79, 83, 84]⟩, .string (S t), .slice none 0 0, .string (S y)] 33)).heap.size = w3.heap.size + 1 := by simp
    have he4 := he3.next hbx
    have r1 := q1.next hbx
    have r2 := q2.next hbx
    have hb4 := below_step hb3' hbx
    have hown0 : PRow (w3.alloc (.cells #[.string ⟨#[80, 79, 83, 84]⟩, .string (S t), .slice none 0 0, .string (S y)] 33)).heap.size ((w3.alloc (.cells #[.string ⟨#[80, 79, 83, 84]⟩, .string (S t), .slice none 0 0, .string (S y)] 33)).alloc (.cells #[] 51)) (.slice (some ⟨(w3.alloc (.cells #[.string ⟨#[80, 79, 83, 84]⟩, .string (S t), .slice none 0 0, .string (S y)] 33)).heap.size, 0, none⟩) 0 0) [] :=
      ⟨rfl, .inr ⟨_, 0, #[], rfl, Nat.le_refl _, heap_alloc_new _ _, Nat.le_refl _, Nat.zero_le _, rfl, rfl⟩⟩
    have hbA := below_alloc (w3.alloc (.cells #[.string ⟨#[80, 79, 83, 84]⟩, .string (S t), .slice none 0 0, .string (S y)] 33)) (.cells #[] 51)
    have hr1 := pcells_reads (r1.below hbA) cap1
    rw [hz3] at hown0 hbA hr1 r2
    have HB4 := Lib.hid hb4
    have HZ := Lib.hid hz3
    clear hz3 he3 q1 q2 hb3' hbx r1
    have tok1 : True := trivial
    have tok2 : True := trivial
    go_wp2_with (first
      | (at_builtin; have _t := tok1; refine wpList_append_pairs ?hw1 (.tmp 45) (.tmp 46) rfl (w3.heap.size + 1) (w3.heap.size + 1) (.slice (some ⟨w3.heap.size + 1, 0, none⟩) 0 0) (.slice A1 a.length cap1) [] a rfl rfl hown0 hr1 (by simp; omega) (by simp) ?_; rotate_right; intro v5 w5 hown5 hgrow5; have hb5 := hbA.grown hgrow5 (by simp) (fun k hk => (World.ownsRow.lt hown0 k hk).1); have hr2 := pcells_reads (r2.below hb5) cap2; clear tok1 hgrow5)
      | (at_builtin; have _t := tok2; have _h := hown5; refine wpList_append_pairs ?hw2 (.tmp 47) (.tmp 48) rfl (w3.heap.size + 1) (w3.heap.size + 1) v5 (.slice A2 b.length cap2) ([] ++ a) b rfl rfl hown5 hr2 (by simp; omega) (by have := hb5.size; simpa using this) ?_; rotate_right; intro v6 w6 hown6 hgrow6; have hb6 := hb5.grown hgrow6 (by have := hb5.size; simpa using this) (fun k hk => (World.ownsRow.lt hown5 k hk).1); have B6 := B3.below hb6 (by omega); have d0 := B6.c0; have d1 := B6.c1; have d2 := B6.c2; have d3 := B6.c3; clear tok2 hgrow6)
      | fail)
    have hb46 := hb6
    rw [← HZ.out] at hb46
    have he6 := he4.next hb46
    have hb6' := below_step HB4.out hb46
    have hz6 : w3.heap.size < w6.heap.size := by have h1 := hb6.size; have h2 := HZ.out; omega
    have k6 := hown6.reads
    clear d0 d1 d2 d3 hb46 hb6 he4 B3 hown0 hown5 hown6 hbA hr1 hr2 r2 hb5 HB4 hb4
    refine (reqArgs_ok [80, 79, 83, 84] t none 0 0 y (a ++ b) w6 he6.digs (by omega) (by omega) HP.out).mono ?_
    rintro e w7 ⟨v7, rfl, hr7, hb7⟩
    have B7 := B6.below hb7 hz6
    have hz7 := Nat.lt_of_lt_of_le hz6 hb7.size
    have k7 := (k6.below hb7).more hb7.size
    have hb7' := below_step hb6' hb7
    have hr7' := hr7.reads
    clear B6 hz6 k6 hb6' hb7 hr7 he6
    go_wp2_with fail
    refine (pairs_any v7 v6 (a ++ b) (([] ++ a) ++ b) w7 hr7' k7 (by simp; omega)).mono ?_
    rintro e w8 ⟨rfl, n, rfl⟩
    rw [show decide (a ++ b = ([] ++ a) ++ b) = true from decide_eq_true (by simp)]
    have hb8 := below_drewN (Below.refl w7.heap.size w7) n
    have B8 := B7.below hb8 hz7
    have hb8' := below_step hb7' hb8
    have d0 := B8.c0
    have d1 := B8.c1
    have d2 := B8.c2
    have d3 := B8.c3
    go_wp2_with fail
    refine (reqPath_any [80, 79, 83, 84] t none 0 0 y _ (by omega)).mono ?_
    rintro e w9 ⟨rfl, hb9⟩
    rw [HCX.out]
    have hS := S_list
    go_wp2
    go_ret
    exact ⟨rfl, below_step hb8' hb9⟩

set_option maxHeartbeats 800000 in
theorem requestArgs_any (A1 : Option Addr) (cap1 : Nat) (a : List Pct.PairL) (A2 : Option Addr) (cap2 : Nat) (b : List Pct.PairL) (post : Bool) (w : World) (he : EnvR w) (h1 : PCells w w.heap.size A1 a) (hm1 : a.length ≤ 9223372036854775807) (h2 : PCells w w.heap.size A2 b) (hm2 : b.length ≤ 9223372036854775807) :
    Calls Tryd.prog 9 #[.slice A1 a.length cap1, .slice A2 b.length cap2, .bool post] w (AwakePost w) := by
  by_cases hall : fewB a = true ∧ fewB b = true ∧ a.length ≤ 10 ∧ b.length ≤ 10
  · exact requestArgs_few A1 A2 cap1 cap2 a b post w he h1 h2 hall.1 hall.2.1 hall.2.2.1 hall.2.2.2
  · have H1 := Lib.hid (fun w' h => few_to A1 cap1 a (fewB a) w' h hm1 rfl)
    have H2 := Lib.hid (fun w' h => few_to A2 cap2 b (fewB b) w' h hm2 rfl)
    cases hf1 : fewB a with
    | false =>
      rw [hf1] at H1
      clear hall hf1
      go_enter Tryd.func9, Tryd.ntmps9
      go_wp2_with fail
      refine (awake_req w he).mono ?_
      rintro e w1 ⟨rfl, hb1⟩
      go_wp2_with fail
      refine (H1.out w1 (h1.next hb1)).mono ?_
      rintro e w' ⟨rfl, rfl⟩
      go_wp2_with fail
      refine (H2.out w1 (h2.next hb1)).mono ?_
      rintro e w' ⟨rfl, rfl⟩
      go_wp2
      go_ret
      exact ⟨rfl, hb1⟩
    | true =>
      rw [hf1] at H1
      cases hf2 : fewB b with
      | false =>
        rw [hf2] at H2
        clear hall hf1 hf2
        go_enter Tryd.func9, Tryd.ntmps9
        go_wp2_with fail
        refine (awake_req w he).mono ?_
        rintro e w1 ⟨rfl, hb1⟩
        go_wp2_with fail
        refine (H1.out w1 (h1.next hb1)).mono ?_
        rintro e w' ⟨rfl, rfl⟩
        go_wp2_with fail
        refine (H2.out w1 (h2.next hb1)).mono ?_
        rintro e w' ⟨rfl, rfl⟩
        go_wp2
        go_ret
        exact ⟨rfl, hb1⟩
      | true =>
        rw [hf2] at H2
        by_cases hla : 10 < a.length
        · have hla' : (10 : Int) < (a.length : Int) := by omega
          clear hall hf1 hf2
          go_enter Tryd.func9, Tryd.ntmps9
          go_wp2_with fail
          refine (awake_req w he).mono ?_
          rintro e w1 ⟨rfl, hb1⟩
          go_wp2_with fail
          refine (H1.out w1 (h1.next hb1)).mono ?_
          rintro e w' ⟨rfl, rfl⟩
          go_wp2_with fail
          refine (H2.out w1 (h2.next hb1)).mono ?_
          rintro e w' ⟨rfl, rfl⟩
          go_wp2
          go_ret
          exact ⟨rfl, hb1⟩
        · have hlb : 10 < b.length := by
            rcases Nat.lt_or_ge 10 b.length with h | h
            · exact h
            · exact absurd ⟨hf1, hf2, by omega, h⟩ hall
          have hla' : ¬ (10 : Int) < (a.length : Int) := by omega
          have hlb' : (10 : Int) < (b.length : Int) := by omega
          clear hall hf1 hf2
          go_enter Tryd.func9, Tryd.ntmps9
          go_wp2_with fail
          refine (awake_req w he).mono ?_
          rintro e w1 ⟨rfl, hb1⟩
          go_wp2_with fail
          refine (H1.out w1 (h1.next hb1)).mono ?_
          rintro e w' ⟨rfl, rfl⟩
          go_wp2_with fail
          refine (H2.out w1 (h2.next hb1)).mono ?_
          rintro e w' ⟨rfl, rfl⟩
          go_wp2
          go_ret
          exact ⟨rfl, hb1⟩
end Go.Proofs.YtbpeohadgplaaaaDoor
