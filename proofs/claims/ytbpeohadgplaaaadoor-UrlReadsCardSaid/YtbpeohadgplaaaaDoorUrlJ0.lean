/- The document's own Parse of a URL that is too long, or whose scheme is none, or that ends behind its scheme. -/
import Derived.Test.YtbpeohadgplaaaaDoorUrlI
import Derived.Deep.DeepCutAuto
namespace Go.Proofs.YtbpeohadgplaaaaDoor
set_option maxRecDepth 8000
open Go.RowKit

set_option maxHeartbeats 3200000 in
set_option maxRecDepth 100000 in
theorem refParse_long (l : List UInt8) (w : World) (he : Env w) (hlong : 2000 < l.length) :
    Calls Tryd.prog 12 #[.string (S l)] w (Told w (.returned (.tuple #[uV zeroU, .int .i64 2]))) := by
  have hl : 2000 < (S l).size := hlong
  have a1 : At0 w (w.alloc (.cells #[.string ⟨#[]⟩, .string ⟨#[]⟩, .int .i64 0, .string ⟨#[]⟩, .string ⟨#[]⟩, .bool false] 24)) := At0.start he
  clear hlong he
  go_enter Tryd.func12, Tryd.ntmps12
  go_upto_region 1 with fail
  generalize w.alloc (.cells #[.string ⟨#[]⟩, .string ⟨#[]⟩, .int .i64 0, .string ⟨#[]⟩, .string ⟨#[]⟩, .bool false] 24) = w1 at a1 ⊢
  obtain ⟨z0, z1, z2, z3, z4, z5, f0, f1, f2, f3, f4, f5⟩ := a1.blk.zero
  have hbb := a1.below
  clear a1
  go_wp2
  exact bodyPost_ret (v := .tuple #[uV zeroU, .int .i64 2]) (by simp [results, Tryd.results12, go_sem, uV, uCells, zeroU, S, z0, z1, z2, z3, z4, z5]) rfl ⟨rfl, below_set6 hbb _ _ _ _ _ _⟩

set_option maxHeartbeats 3200000 in
set_option maxRecDepth 100000 in
theorem refParse_few (l : List UInt8) (w : World) (he : Env w) (hlen : l.length < 7) :
    Calls Tryd.prog 12 #[.string (S l)] w (Told w (.returned (.tuple #[uV zeroU, .int .i64 12]))) := by
  have hl : ¬ 2000 < (S l).size := by show ¬ 2000 < l.length; omega
  have hl7 : ¬ 7 ≤ (S l).size := by show ¬ 7 ≤ l.length; omega
  have hl8 : ¬ 8 ≤ (S l).size := by show ¬ 8 ≤ l.length; omega
  have a1 : At0 w (w.alloc (.cells #[.string ⟨#[]⟩, .string ⟨#[]⟩, .int .i64 0, .string ⟨#[]⟩, .string ⟨#[]⟩, .bool false] 24)) := At0.start he
  clear hlen he
  go_enter Tryd.func12, Tryd.ntmps12
  go_upto_region 1 with fail
  generalize w.alloc (.cells #[.string ⟨#[]⟩, .string ⟨#[]⟩, .int .i64 0, .string ⟨#[]⟩, .string ⟨#[]⟩, .bool false] 24) = w1 at a1 ⊢
  obtain ⟨z0, z1, z2, z3, z4, z5, f0, f1, f2, f3, f4, f5⟩ := a1.blk.zero
  have hbb := a1.below
  clear a1
  go_wp2
  exact bodyPost_ret (v := .tuple #[uV zeroU, .int .i64 12]) (by simp [results, Tryd.results12, go_sem, uV, uCells, zeroU, S, z0, z1, z2, z3, z4, z5]) rfl ⟨rfl, below_set6 hbb _ _ _ _ _ _⟩

set_option maxHeartbeats 3200000 in
set_option maxRecDepth 100000 in
theorem refParse_seven (l : List UInt8) (w : World) (he : Env w) (hlen : l.length = 7) (h7 : is7 l = false) :
    Calls Tryd.prog 12 #[.string (S l)] w (Told w (.returned (.tuple #[uV zeroU, .int .i64 12]))) := by
  have hl : ¬ 2000 < (S l).size := by show ¬ 2000 < l.length; omega
  have hl7 : 7 ≤ (S l).size := by show 7 ≤ l.length; omega
  have hl8 : ¬ 8 ≤ (S l).size := by show ¬ 8 ≤ l.length; omega
  have h7e : Url.small (l.take 7) ≠ Url.http ++ Url.sep := of_decide_eq_false h7
  obtain ⟨y7, hy7⟩ : ∃ y, y = l.take 7 := ⟨_, rfl⟩
  rw [← hy7] at h7e
  have hyl7 : y7.length ≤ 7 := by rw [hy7, List.length_take]; omega
  have hx7 : (S l).extract 0 7 = S y7 := by rw [extract_piece, hy7]; rfl
  clear hy7
  have hB7 : ((S (Url.small y7)).toList == [104, 116, 116, 112, 58, 47, 47]) = false := beq_eq_false_iff_ne.2 (by rw [S_list]; exact h7e)
  clear h7e h7 hlen
  go_enter Tryd.func12, Tryd.ntmps12
  go_wp2_with fail
  refine (refSmall_S y7 _ (by omega)).mono ?_
  rintro e w1 ⟨rfl, hb1⟩
  have a1 := (At0.start he).next hb1
  obtain ⟨z0, z1, z2, z3, z4, z5, f0, f1, f2, f3, f4, f5⟩ := a1.blk.zero
  have hbb := a1.below
  clear a1
  clear hb1 he
  go_wp2
  exact bodyPost_ret (v := .tuple #[uV zeroU, .int .i64 12]) (by simp [results, Tryd.results12, go_sem, uV, uCells, zeroU, S, z0, z1, z2, z3, z4, z5]) rfl ⟨rfl, below_set6 hbb _ _ _ _ _ _⟩

set_option maxHeartbeats 3200000 in
set_option maxRecDepth 100000 in
theorem refParse_none (l : List UInt8) (w : World) (he : Env w) (hlong : ¬ 2000 < l.length) (hlen : 8 ≤ l.length) (h7 : is7 l = false) (h8 : is8 l = false) :
    Calls Tryd.prog 12 #[.string (S l)] w (Told w (.returned (.tuple #[uV zeroU, .int .i64 12]))) := by
  have hl : ¬ 2000 < (S l).size := hlong
  have hl7 : 7 ≤ (S l).size := by show 7 ≤ l.length; omega
  have hl8 : 8 ≤ (S l).size := hlen
  have h7e : Url.small (l.take 7) ≠ Url.http ++ Url.sep := of_decide_eq_false h7
  have h8e : Url.small (l.take 8) ≠ Url.https ++ Url.sep := of_decide_eq_false h8
  obtain ⟨y7, hy7⟩ : ∃ y, y = l.take 7 := ⟨_, rfl⟩
  rw [← hy7] at h7e
  have hyl7 : y7.length ≤ 7 := by rw [hy7, List.length_take]; omega
  have hx7 : (S l).extract 0 7 = S y7 := by rw [extract_piece, hy7]; rfl
  clear hy7
  obtain ⟨y8, hy8⟩ : ∃ y, y = l.take 8 := ⟨_, rfl⟩
  rw [← hy8] at h8e
  have hyl8 : y8.length ≤ 8 := by rw [hy8, List.length_take]; omega
  have hx8 : (S l).extract 0 8 = S y8 := by rw [extract_piece, hy8]; rfl
  clear hy8
  have hB7 : ((S (Url.small y7)).toList == [104, 116, 116, 112, 58, 47, 47]) = false := beq_eq_false_iff_ne.2 (by rw [S_list]; exact h7e)
  have hB8 : ((S (Url.small y8)).toList == [104, 116, 116, 112, 115, 58, 47, 47]) = false := beq_eq_false_iff_ne.2 (by rw [S_list]; exact h8e)
  clear h7e h7 h8e h8 hlen hlong
  go_enter Tryd.func12, Tryd.ntmps12
  go_wp2_with fail
  refine (refSmall_S y7 _ (by omega)).mono ?_
  rintro e w1 ⟨rfl, hb1⟩
  have a1 := (At0.start he).next hb1
  clear hb1 he
  go_wp2_with fail
  refine (refSmall_S y8 _ (by omega)).mono ?_
  rintro e w2 ⟨rfl, hb2⟩
  have a2 := a1.next hb2
  obtain ⟨z0, z1, z2, z3, z4, z5, f0, f1, f2, f3, f4, f5⟩ := a2.blk.zero
  have hbb := a2.below
  clear a2
  clear hb2 a1
  go_wp2
  exact bodyPost_ret (v := .tuple #[uV zeroU, .int .i64 12]) (by simp [results, Tryd.results12, go_sem, uV, uCells, zeroU, S, z0, z1, z2, z3, z4, z5]) rfl ⟨rfl, below_set6 hbb _ _ _ _ _ _⟩

set_option maxHeartbeats 3200000 in
set_option maxRecDepth 100000 in
theorem refParse_bare (l : List UInt8) (w : World) (he : Env w) (hlen : l.length = 7) (h7 : is7 l = true) :
    Calls Tryd.prog 12 #[.string (S l)] w (Told w (.returned (.tuple #[uV zeroU, .int .i64 13]))) := by
  have hl : ¬ 2000 < (S l).size := by show ¬ 2000 < l.length; omega
  have hs : (S l).size ≤ 1073741824 := by show l.length ≤ _; omega
  have hse : (S l).size = 7 := hlen
  have hl7 : 7 ≤ (S l).size := by omega
  have hl8 : ¬ 8 ≤ (S l).size := by omega
  have h7e := of_decide_eq_true h7
  obtain ⟨y7, hy7⟩ : ∃ y, y = l.take 7 := ⟨_, rfl⟩
  rw [← hy7] at h7e
  have hyl7 : y7.length ≤ 7 := by rw [hy7, List.length_take]; omega
  have hx7 : (S l).extract 0 7 = S y7 := by rw [extract_piece, hy7]; rfl
  clear hy7
  have HE7 := Lib.hid h7e
  have hxe : (S l).extract 7 7 = S [] := by
    have := piece_while (S l) l rfl Url.noDelim 7
    rw [List.drop_eq_nil_of_le (by omega)] at this
    exact this
  have HDR := Lib.hid (show List.takeWhile Url.noDelim ((S l).data.toList.drop 7) = [] by
    rw [List.drop_eq_nil_of_le (by show l.length ≤ 7; omega)]; rfl)
  have HSE := Lib.hid hse
  clear h7e h7 hlen hse
  go_enter Tryd.func12, Tryd.ntmps12
  go_wp2_with fail
  refine (refSmall7_yes y7 _ HE7.out).mono ?_
  rintro e w1 ⟨rfl, hb1⟩
  have a1 := (At0.start he).next hb1
  clear hb1 he
  go_wp2_with fail
  refine (find4_at (S l) 7 _ w1 rfl (by omega) hs).mono ?_
  rintro e w3 ⟨rfl, hb3⟩
  have a3 := a1.next hb3
  clear a1 hb3
  rw [HDR.out, show ((7 : Nat) : Int) + (([] : List UInt8).length : Int) = 7 by rfl]
  go_wp2_with fail
  refine (refSmall_S [] w3 (by simp)).mono ?_
  rintro e w4 ⟨rfl, hb4⟩
  have a4 := a3.next hb4
  obtain ⟨z0, z1, z2, z3, z4, z5, f0, f1, f2, f3, f4, f5⟩ := a4.blk.zero
  have hbb := a4.below
  clear a4
  clear a3 hb4
  go_wp2
  exact bodyPost_ret (v := .tuple #[uV zeroU, .int .i64 13]) (by simp [results, Tryd.results12, go_sem, uV, uCells, zeroU, S, z0, z1, z2, z3, z4, z5]) rfl ⟨rfl, below_set6 hbb _ _ _ _ _ _⟩
end Go.Proofs.YtbpeohadgplaaaaDoor
