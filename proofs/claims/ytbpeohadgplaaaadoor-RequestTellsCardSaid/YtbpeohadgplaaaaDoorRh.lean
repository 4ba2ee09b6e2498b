/- The statements' own call awake of requests: it answers true, where the variables that it reaches read as their texts lay them. -/
import Derived.Test.YtbpeohadgplaaaaDoorRg
namespace Go.Proofs.YtbpeohadgplaaaaDoor
set_option maxRecDepth 8000
open Go.RowKit

theorem reqParse_ok (l m t : List UInt8) (hs : List Pct.PairL) (b : List UInt8) (w : World) (he : EnvR w) (h : Req.parse l = .ok ⟨m, t, hs, b⟩) :
    Calls Tryd.prog 16 #[.string (S l)] w fun e w' => ∃ A cap, e = .returned (.tuple #[.agg #[.string (S m), .string (S t), .slice A hs.length cap, .string (S b)], .int .i64 0]) ∧ PCells w' w'.heap.size A hs ∧ Below w.heap.size w w' :=
  (reqParse_any l w he).mono fun e w' hp => by rw [h] at hp; exact hp
theorem reqParse_err (l : List UInt8) (n : Nat) (w : World) (he : EnvR w) (h : Req.parse l = .error n) :
    Calls Tryd.prog 16 #[.string (S l)] w fun e w' => e = .returned (.tuple #[.agg #[.string ⟨#[]⟩, .string ⟨#[]⟩, .slice none 0 0, .string ⟨#[]⟩], .int .i64 n]) ∧ Below w.heap.size w w' :=
  (reqParse_any l w he).mono fun e w' hp => by rw [h] at hp; exact hp

def aw1 : List UInt8 := [71, 69, 84, 32, 47, 108, 111, 103, 105, 110, 63, 97, 61, 49, 32, 72, 84, 84, 80, 47, 49, 46, 49, 13, 10, 72, 111, 115, 116, 58, 32, 120, 13, 10, 13, 10]
def aw2 : List UInt8 := [80, 85, 84, 32, 47, 32, 72, 84, 84, 80, 47, 49, 46, 49, 13, 10, 13, 10]
def aw3 : List UInt8 := [80, 79, 83, 84, 32, 47, 32, 72, 84, 84, 80, 47, 49, 46, 49, 13, 10, 99, 111, 110, 116, 101, 110, 116, 45, 108, 101, 110, 103, 116, 104, 58, 32, 51, 13, 10, 13, 10, 97, 61, 49]
def awT : List UInt8 := [47, 108, 111, 103, 105, 110, 63, 97, 61, 49]
theorem aw1_is : Req.parse aw1 = .ok ⟨[71, 69, 84], awT, [([72, 111, 115, 116], [120])], []⟩ := by kernel_rfl
theorem aw2_is : Req.parse aw2 = .error 16 := by kernel_rfl
theorem aw3_is : Req.parse aw3 = .ok ⟨[80, 79, 83, 84], [47], [(Req.cl, [51])], [97, 61, 49]⟩ := by kernel_rfl
theorem awA_is : argsP [71, 69, 84] awT [] = .ok [([97], [49])] := by kernel_rfl
theorem awP_is : (Pct.cutAt 63 awT).1 = [47, 108, 111, 103, 105, 110] := by kernel_rfl

theorem aw_lit (w4 : World) : PReads (w4.alloc (.cells #[.string ⟨#[97]⟩, .string ⟨#[49]⟩] 51)) (w4.alloc (.cells #[.string ⟨#[97]⟩, .string ⟨#[49]⟩] 51)).heap.size (.slice (some ⟨w4.heap.size, 0, none⟩) 1 1) [([97], [49])] := by
  refine ⟨_, 1, rfl, fun _ => ⟨w4.heap.size, 0, rfl, by simp, fun k hk => ?_⟩⟩
  have hc := fun i => cell_of_row _ w4.heap.size i _ _ _ (heap_alloc_new w4 (.cells #[.string ⟨#[97]⟩, .string ⟨#[49]⟩] 51))
  match k, hk with
  | 0, _ => exact ⟨hc 0, hc 1⟩

theorem reqParse_okN (l m t : List UInt8) (hs : List Pct.PairL) (n : Nat) (b : List UInt8) (w : World) (he : EnvR w) (h : Req.parse l = .ok ⟨m, t, hs, b⟩) (hn : hs.length = n) :
    Calls Tryd.prog 16 #[.string (S l)] w fun e w' => ∃ A cap, e = .returned (.tuple #[.agg #[.string (S m), .string (S t), .slice A n cap, .string (S b)], .int .i64 0]) ∧ PCells w' w'.heap.size A hs ∧ Below w.heap.size w w' := by
  subst hn
  exact reqParse_ok l m t hs b w he h
theorem below_alloc (w : World) (o : Obj) : Below w.heap.size w (w.alloc o) := (Below.refl _ _).alloc (Nat.le_refl _) o
theorem below_step {w w1 w2 : World} (h : Below w.heap.size w w1) (hb : Below w1.heap.size w1 w2) : Below w.heap.size w w2 := h.trans (hb.mono h.size)

set_option maxHeartbeats 1600000 in
theorem awake_req (w : World) (he : EnvR w) : Calls Tryd.prog 15 #[] w (AwakePost w) := by
  have hS := S_list
  go_enter Tryd.func15, Tryd.ntmps15
  go_wp2_with fail
  refine (reqParse_okN aw1 _ _ _ 1 _ w he aw1_is rfl).mono ?_
  rintro e w1 ⟨A1, cap1, rfl, hp1, hb1⟩
  have he1 := he.next hb1
  go_wp2_with fail
  have hbx := below_alloc w1 (.cells #[.string (S [71, 69, 84]), .string (S awT), .slice A1 1 cap1, .string (S [])] 33)
  have B1 := BlkR.new w1 [71, 69, 84] awT [] (.slice A1 1 cap1)
  generalize hW : w1.alloc (.cells #[.string (S [71, 69, 84]), .string (S awT), .slice A1 1 cap1, .string (S [])] 33) = w1a at hbx B1
  have hz1 : w1.heap.size < w1a.heap.size := by rw [← hW]; simp
  have he1a := he1.next hbx
  have hb1a := below_step hb1 hbx
  clear hW hbx hb1 he1 hp1
  refine (reqParse_err aw2 16 w1a he1a aw2_is).mono ?_
  rintro e w2 ⟨rfl, hb2⟩
  have he2 := he1a.next hb2
  have B2 := B1.below hb2 hz1
  have hz2 : w1.heap.size < w2.heap.size := Nat.lt_of_lt_of_le hz1 hb2.size
  have hb2' := below_step hb1a hb2
  clear B1 hz1 hb1a he1a hb2
  go_wp2_with fail
  have hbx := below_alloc w2 (.cells #[.string ⟨#[]⟩, .string ⟨#[]⟩, .slice none 0 0, .string ⟨#[]⟩] 33)
  generalize hW : w2.alloc (.cells #[.string ⟨#[]⟩, .string ⟨#[]⟩, .slice none 0 0, .string ⟨#[]⟩] 33) = w2a at hbx
  have he2a := he2.next hbx
  have B2a := B2.below hbx hz2
  have hz2a : w1.heap.size < w2a.heap.size := Nat.lt_of_lt_of_le hz2 hbx.size
  have hb2a := below_step hb2' hbx
  clear hW hbx he2 B2 hz2 hb2'
  refine (reqParse_okN aw3 _ _ _ 1 _ w2a he2a aw3_is rfl).mono ?_
  rintro e w3 ⟨A3, cap3, rfl, hp3, hb3⟩
  have he3 := he2a.next hb3
  have B3 := B2a.below hb3 hz2a
  have hz3 : w1.heap.size < w3.heap.size := Nat.lt_of_lt_of_le hz2a hb3.size
  have hb3' := below_step hb2a hb3
  clear hp3 hb3 he2a B2a hz2a hb2a
  have hbx := below_alloc w3 (.cells #[.string (S [80, 79, 83, 84]), .string (S [47]), .slice A3 1 cap3, .string (S [97, 61, 49])] 33)
  have C3 := BlkR.new w3 [80, 79, 83, 84] [47] [97, 61, 49] (.slice A3 1 cap3)
  have B3a := B3.below hbx hz3
  have he3a := he3.next hbx
  have hb3a := below_step hb3' hbx
  have hzc : w3.heap.size < (w3.alloc (.cells #[.string (S [80, 79, 83, 84]), .string (S [47]), .slice A3 1 cap3, .string (S [97, 61, 49])] 33)).heap.size := by simp
  have hza := Nat.lt_of_lt_of_le hz3 hbx.size
  have d0 := B3a.c0
  have d1 := B3a.c1
  have d2 := B3a.c2
  have d3 := B3a.c3
  clear hbx B3 hz3 he3 hb3'
  go_wp2_with fail
  generalize w3.alloc (.cells #[.string (S [80, 79, 83, 84]), .string (S [47]), .slice A3 1 cap3, .string (S [97, 61, 49])] 33) = w3a at C3 B3a he3a hb3a hzc hza d0 d1 d2 d3
  clear d0 d1 d2 d3
  refine ((reqArgs_any [71, 69, 84] awT A1 1 cap1 [] w3a he3a.digs (by decide) (by decide)).mono fun e w' (hp : FormPost w3a (argsP [71, 69, 84] awT []) e w') => (by rw [awA_is] at hp; exact hp : ∃ v, e = .returned (.tuple #[v, .int .i64 0]) ∧ PRow w3a.heap.size w' v [([97], [49])] ∧ Below w3a.heap.size w3a w')).mono ?_
  rintro e w4 ⟨v4, rfl, hr4, hb4⟩
  have B4 := B3a.below hb4 hza
  have C4 := C3.below hb4 hzc
  have hz4 := Nat.lt_of_lt_of_le hza hb4.size
  have hz4' := Nat.lt_of_lt_of_le hzc hb4.size
  have hb4' := below_step hb3a hb4
  have hr4' := hr4.reads
  clear hr4 hb4 B3a C3 hza hzc hb3a he3a
  have d0 := B4.c0
  have d1 := B4.c1
  have d2 := B4.c2
  have d3 := B4.c3
  go_wp2_with fail
  refine (reqPath_any [71, 69, 84] awT A1 1 cap1 [] w4 (by decide)).mono ?_
  rintro e w5 ⟨rfl, hb5⟩
  rw [awP_is]
  have C5 := C4.below hb5 hz4'
  have hz5 := Nat.lt_of_lt_of_le hz4' hb5.size
  have hb5' := below_step hb4' hb5
  have hr5 := (hr4'.below hb5).more hb5.size
  clear d0 d1 d2 d3 hb5 C4 B4 hz4 hz4' hb4' hr4'
  go_wp2_with fail
  refine (pairs_any v4 _ [([97], [49])] [([97], [49])] _ ((hr5.below (below_alloc w5 _)).more (by simp)) (aw_lit w5) (by decide)).mono ?_
  rintro e w6 ⟨rfl, n, rfl⟩
  have C6 := (C5.below (below_alloc w5 (.cells #[.string ⟨#[97]⟩, .string ⟨#[49]⟩] 51)) hz5)
  have d3 := C6.c3
  rw [show decide (([([97], [49])] : List Pct.PairL) = [([97], [49])]) = true by decide]
  go_wp2
  go_ret
  exact ⟨rfl, below_drewN (hb5'.alloc hb5'.size _) n⟩
end Go.Proofs.YtbpeohadgplaaaaDoor
