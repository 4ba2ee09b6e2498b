/- Where a mark is cut off: cutMark of package xml, for texts of at most 2^26 bytes. -/
import Derived.Test.YtpleaopefngafaaDoorXmAx
namespace Go.Proofs.YtpleaopefngafaaDoor
set_option maxRecDepth 8000
open Go.RowKit

theorem ib_take (c : UInt8) : ∀ l : List UInt8, (Lib.indexByte l c = -1 ∧ l.takeWhile (· != c) = l ∧ l.dropWhile (· != c) = []) ∨ (∃ i : Nat, i < l.length ∧ Lib.indexByte l c = (i : Int) ∧ l.takeWhile (· != c) = l.take i ∧ l.dropWhile (· != c) = l.drop i)
  | [] => .inl ⟨rfl, rfl, rfl⟩
  | x :: l => by
    by_cases h : x = c
    · subst h
      refine .inr ⟨0, by simp, by simp [Lib.indexByte], by simp, by simp⟩
    · have hx : (x != c) = true := by simpa using h
      have hx2 : (x == c) = false := by simpa using h
      rcases ib_take c l with ⟨h1, h2, h3⟩ | ⟨i, hi, h1, h2, h3⟩
      · refine .inl ⟨?_, ?_, ?_⟩
        · simp [Lib.indexByte, hx2, h1]
        · rw [List.takeWhile_cons, hx, if_pos rfl, h2]
        · rw [List.dropWhile_cons, hx, if_pos rfl, h3]
      · refine .inr ⟨i + 1, by simp; omega, ?_, ?_, ?_⟩
        · have hne : ¬ ((i : Int) = -1) := by omega
          simp [Lib.indexByte, hx2, h1, hne]
        · rw [List.takeWhile_cons, hx, if_pos rfl, h2, List.take_succ_cons]
        · rw [List.dropWhile_cons, hx, if_pos rfl, h3, List.drop_succ_cons]
theorem S_take (l : List UInt8) (i : Nat) : (S l).extract 0 i = S (l.take i) := by
  apply ByteArray.ext
  rw [ByteArray.data_extract]
  apply Array.ext'
  rw [Array.toList_extract, List.extract_eq_take_drop]
  simp [S]
theorem S_drop (l : List UInt8) (i : Nat) : (S l).extract i (S l).size = S (l.drop i) := by
  apply ByteArray.ext
  apply Array.ext'
  exact extract_toList (S l) i
theorem cut_lens (l sep : List UInt8) : (Lib.cut l sep).1.length ≤ l.length ∧ (Lib.cut l sep).2.1.length ≤ l.length := by
  unfold Lib.cut
  split
  · exact ⟨by simp; omega, by simp⟩
  · exact ⟨Nat.le_refl _, by simp⟩
theorem cut_to (l sep a b : List UInt8) (f : Bool) (w : World) (he : EnvX w) (hl : l.length ≤ 268435455) (h : Lib.cut l sep = (a, b, f)) :
    Calls Tryd.prog 34 #[.string (S l), .string (S sep)] w fun e w' => e = .returned (.tuple #[.string (S a), .string (S b), .bool f]) ∧ Below w.heap.size w w' := by
  obtain ⟨m, hm⟩ := he.big
  refine (Tryd.strings_Cut (S l) (S sep) m w (by show l.length < _; omega) hm).mono ?_
  rintro e w' ⟨rfl, hq⟩
  refine ⟨?_, below_of_drewN hq⟩
  rw [S_toList, S_toList, h]
  rfl

set_option maxHeartbeats 1600000 in
theorem cutMark_any (l : List UInt8) (w : World) (he : EnvX w) (hl : l.length ≤ 268435455) :
    Calls Tryd.prog 22 #[.string (S l)] w fun e w' => e = .returned (.tuple #[.string (S (Xm.cutM l).1), .string (S (Xm.cutM l).2.1), .string (S (Xm.cutM l).2.2)]) ∧ Below w.heap.size w w' := by
  obtain ⟨⟨a, r, f⟩, hc⟩ : ∃ q, Lib.cut l [62] = q := ⟨_, rfl⟩
  have hrl : r.length ≤ 268435455 := by have := (cut_lens l [62]).2; rw [hc] at this; exact Nat.le_trans this hl
  have HC : Hid (Calls Tryd.prog 34 #[.string (S l), .string ⟨#[62]⟩] w fun e w' => e = .returned (.tuple #[.string (S a), .string (S r), .bool f]) ∧ Below w.heap.size w w') := Lib.hid (cut_to l [62] a r f w he hl hc)
  have HM : Hid (Xm.cutM l = (a, r.takeWhile (· != 60), r.dropWhile (· != 60))) := Lib.hid (by unfold Xm.cutM; rw [hc])
  have HI : Hid (∀ w' : World, Calls Tryd.prog 35 #[.string (S r), .int .u8 60] w' fun e w'' => e = .returned (.int .i64 (Lib.indexByte r 60)) ∧ w' = w'') := Lib.hid (fun w' => by
    refine (Tryd.strings_IndexByte (S r) 60 w').mono ?_
    rintro e w'' ⟨rfl, rfl⟩
    exact ⟨rfl, rfl⟩)
  have HCAS := Lib.hid (ib_take 60 r)
  have hz : (S r).size = r.length := rfl
  have HZ := Lib.hid hz
  clear hc hz
  rcases HCAS.out with ⟨h1, h2, h3⟩ | ⟨i, hi, h1, h2, h3⟩
  · rw [h1] at HI
    rw [h2, h3] at HM
    have HE1 : Hid ((S r).extract 0 (S r).size = S r) := Lib.hid (by rw [S_take, HZ.out, List.take_of_length_le (Nat.le_refl _)])
    have HE2 : Hid ((S r).extract (S r).size (S r).size = S []) := Lib.hid (by rw [S_drop, HZ.out, List.drop_of_length_le (Nat.le_refl _)])
    clear h1 h2 h3 HCAS
    obtain ⟨s, hs⟩ : ∃ s, s = S r := ⟨_, rfl⟩
    have hsz : s.size ≤ 268435455 := by rw [hs]; exact hrl
    rw [← hs] at HC HI HE1 HE2
    have HS := Lib.hid hs
    clear hs
    go_enter Tryd.func22, Tryd.ntmps22
    go_wp2_with fail
    refine HC.out.mono ?_
    rintro e w1 ⟨rfl, hb1⟩
    go_wp2_with fail
    refine (HI.out _).mono ?_
    rintro e w' ⟨rfl, rfl⟩
    go_wp2_with fail
    go_quiet (fail)
    go_wp2_with fail
    go_ret3
    exact ⟨by rw [HM.out, HS.out]; rfl, below_drewN hb1 nq⟩
  · rw [h1] at HI
    rw [h2, h3] at HM
    have HE1 : Hid ((S r).extract 0 i = S (r.take i)) := Lib.hid (S_take r i)
    have HE2 : Hid ((S r).extract i (S r).size = S (r.drop i)) := Lib.hid (S_drop r i)
    have hir : i < (S r).size := by rw [HZ.out]; exact hi
    clear h1 h2 h3 HCAS
    obtain ⟨s, hs⟩ : ∃ s, s = S r := ⟨_, rfl⟩
    have hsz : s.size ≤ 268435455 := by rw [hs]; exact hrl
    rw [← hs] at HC HI HE1 HE2 hir
    have hi0 : (0 : Int) ≤ (i : Int) := by omega
    have hi1 : (i : Int) ≤ (s.size : Int) := by omega
    clear hs
    go_enter Tryd.func22, Tryd.ntmps22
    go_wp2_with fail
    refine HC.out.mono ?_
    rintro e w1 ⟨rfl, hb1⟩
    go_wp2_with fail
    refine (HI.out _).mono ?_
    rintro e w' ⟨rfl, rfl⟩
    go_wp2_with fail
    go_quiet (fail)
    go_wp2_with fail
    go_ret3
    exact ⟨by rw [HM.out, ← HE1.out, ← HE2.out]; rfl, below_drewN hb1 nq⟩
end Go.Proofs.YtpleaopefngafaaDoor
