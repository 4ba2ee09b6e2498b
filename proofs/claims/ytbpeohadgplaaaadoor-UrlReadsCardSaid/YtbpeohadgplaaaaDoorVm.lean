/- What the statements' own call awake of URLs does: it answers true, where the variables that it reaches read as their texts lay them. -/
import Derived.Test.YtbpeohadgplaaaaDoorVl
namespace Go.Proofs.YtbpeohadgplaaaaDoor
set_option maxRecDepth 8000
open Go.RowKit

theorem ex1 : normRes (Url.parse [72, 84, 84, 80, 58, 47, 47, 69, 120, 97, 109, 112, 108, 101, 46, 99, 111, 109, 58, 56, 48, 47, 97, 47, 46, 47, 98, 47, 46, 46, 47, 37, 54, 51, 63, 120, 61, 37, 50, 102]) = .returned (.tuple #[.string (S [104, 116, 116, 112, 58, 47, 47, 101, 120, 97, 109, 112, 108, 101, 46, 99, 111, 109, 47, 97, 47, 99, 63, 120, 61, 37, 50, 70]), .int .i64 0]) := by kernel_rfl
theorem ex2 : normRes (Url.parse [104, 116, 116, 112, 115, 58, 47, 47, 104, 58, 52, 52, 51]) = .returned (.tuple #[.string (S [104, 116, 116, 112, 115, 58, 47, 47, 104, 47]), .int .i64 0]) := by kernel_rfl
theorem ex3 : normRes (Url.parse [104, 116, 116, 112, 58, 47, 47, 104, 47, 97, 47, 46, 46]) = .returned (.tuple #[.string (S [104, 116, 116, 112, 58, 47, 47, 104, 47]), .int .i64 0]) := by kernel_rfl
theorem ex4 : normRes (Url.parse [102, 116, 112, 58, 47, 47, 104, 47]) = .returned (.tuple #[.string ⟨#[]⟩, .int .i64 12]) := by kernel_rfl
theorem ex5 : normRes (Url.parse [104, 116, 116, 112, 58, 47, 47, 104, 58, 48, 47]) = .returned (.tuple #[.string ⟨#[]⟩, .int .i64 14]) := by kernel_rfl
theorem ex6 : normRes (Url.parse [104, 116, 116, 112, 58, 47, 47, 104, 47, 35]) = .returned (.tuple #[.string ⟨#[]⟩, .int .i64 15]) := by kernel_rfl

theorem normal_ex (l : List UInt8) (e0 : Ending) (w : World) (he : Env w) (h : normRes (Url.parse l) = e0) :
    Calls Tryd.prog 13 #[.string (S l)] w fun e w' => e = e0 ∧ Below w.heap.size w w' := by
  rw [← h]
  exact normal_url l w he

set_option maxHeartbeats 800000 in
theorem awake_url (w : World) (he : Env w) : Calls Tryd.prog 10 #[] w (AwakePost w) := by
  have hS := S_list
  go_enter Tryd.func10, Tryd.ntmps10
  go_wp2_with fail
  refine (normal_ex [72, 84, 84, 80, 58, 47, 47, 69, 120, 97, 109, 112, 108, 101, 46, 99, 111, 109, 58, 56, 48, 47, 97, 47, 46, 47, 98, 47, 46, 46, 47, 37, 54, 51, 63, 120, 61, 37, 50, 102] _ w he ex1).mono ?_
  rintro e w1 ⟨rfl, hb1⟩
  have he1 := he.next hb1
  go_wp2_with fail
  refine (normal_ex [104, 116, 116, 112, 115, 58, 47, 47, 104, 58, 52, 52, 51] _ w1 he1 ex2).mono ?_
  rintro e w2 ⟨rfl, hb2⟩
  have he2 := he1.next hb2
  have hb2' := below_next hb1 hb2
  clear hb1 hb2 he1
  go_wp2_with fail
  refine (normal_ex [104, 116, 116, 112, 58, 47, 47, 104, 47, 97, 47, 46, 46] _ w2 he2 ex3).mono ?_
  rintro e w3 ⟨rfl, hb3⟩
  have he3 := he2.next hb3
  have hb3' := below_next hb2' hb3
  clear hb2' hb3 he2
  go_wp2_with fail
  refine (normal_ex [102, 116, 112, 58, 47, 47, 104, 47] _ w3 he3 ex4).mono ?_
  rintro e w4 ⟨rfl, hb4⟩
  have he4 := he3.next hb4
  have hb4' := below_next hb3' hb4
  clear hb3' hb4 he3
  go_wp2_with fail
  refine (normal_ex [104, 116, 116, 112, 58, 47, 47, 104, 58, 48, 47] _ w4 he4 ex5).mono ?_
  rintro e w5 ⟨rfl, hb5⟩
  have he5 := he4.next hb5
  have hb5' := below_next hb4' hb5
  clear hb4' hb5 he4
  go_wp2_with fail
  refine (normal_ex [104, 116, 116, 112, 58, 47, 47, 104, 47, 35] _ w5 he5 ex6).mono ?_
  rintro e w6 ⟨rfl, hb6⟩
  have hb6' := below_next hb5' hb6
  clear hb5' hb6 he5
  go_wp2
  go_ret
  exact ⟨rfl, hb6'⟩
end Go.Proofs.YtbpeohadgplaaaaDoor
