/- What the statement on joining answers, for any three sums and any two lengths, where the table reads as its text lays it: true. -/
import Derived.Test.YtlfdgmiiijjbhaaDoorCrC
namespace Go.Proofs.YtlfdgmiiijjbhaaDoor
set_option maxRecDepth 8000
open Go.RowKit

theorem join_to (a b n s : Nat) (w : World) (hs : Cr.join a b n = s) (ha : a < 4294967296) (hb : b < 4294967296) (hn : n ≤ 9223372036854775807) :
    Calls Tryd.prog 14 #[U a, U b, .int .i64 (n : Int)] w fun e w' => e = .returned (U s) ∧ w = w' := by
  subst hs
  exact join_any a b n w ha hb hn
theorem join_neg_to (a b s : Nat) (n : Int) (w : World) (hs : a ^^^ b = s) (ha : a < 4294967296) (hb : b < 4294967296) (hn : n ≤ 0) :
    Calls Tryd.prog 14 #[U a, U b, .int .i64 n] w fun e w' => e = .returned (U s) ∧ w = w' := by
  subst hs
  exact join_neg a b n w ha hb hn

set_option maxHeartbeats 1000000 in
theorem crcJoins_in (a b c n m : Nat) (w : World) (hH : Hs w) (ha : a < 4294967296) (hb : b < 4294967296) (hc : c < 4294967296) (hn : n ≤ 1099511627776) (hm : m ≤ 1099511627776) :
    Calls Tryd.prog 5 #[U a, U b, U c, .int .i64 (n : Int), .int .i64 (m : Int)] w (AwakePost w) := by
  have d1 : decide ((n : Int) < 0) = false := by simp
  have d2 : decide ((m : Int) < 0) = false := by simp
  have d3 : decide (1099511627776 < (n : Int)) = false := by simpa using (by omega : (n : Int) ≤ 1099511627776)
  have d4 : decide (1099511627776 < (m : Int)) = false := by simpa using (by omega : (m : Int) ≤ 1099511627776)
  obtain ⟨s1, hs1⟩ : ∃ s, s = Cr.join a b n := ⟨_, rfl⟩
  obtain ⟨s2, hs2⟩ : ∃ s, s = Cr.join s1 c m := ⟨_, rfl⟩
  obtain ⟨s3, hs3⟩ : ∃ s, s = Cr.join b c m := ⟨_, rfl⟩
  obtain ⟨s4, hs4⟩ : ∃ s, s = a ^^^ b := ⟨_, rfl⟩
  have hl1 : s1 < 4294967296 := by rw [hs1]; exact Cr.join_lt ha hb n
  have hl3 : s3 < 4294967296 := by rw [hs3]; exact Cr.join_lt hb hc m
  have HS1 := Lib.hid hs1
  have HS2 := Lib.hid hs2
  have HS3 := Lib.hid hs3
  have HS4 := Lib.hid hs4
  have HR : Hid (Cr.join a s3 (n + m) = s2) := Lib.hid (by rw [hs3, hs2, hs1, Cr.join_join])
  have hx : bits .xor .u32 (a : Int) (b : Int) = (s4 : Int) := by rw [hs4]; exact u32_xor_nat a b ha hb
  clear hs1 hs2 hs3 hs4
  have hnm : (((n + m : Nat) : Int)) = (n : Int) + (m : Int) := by omega
  have HNM := Lib.hid hnm
  clear hnm
  have hn' : n ≤ 9223372036854775807 := by omega
  have hm' : m ≤ 9223372036854775807 := by omega
  have hnm' : n + m ≤ 9223372036854775807 := by omega
  go_enter Tryd.func5, Tryd.ntmps5
  go_wp2_with fail
  refine (awake_any w hH).mono ?_
  rintro e w1 ⟨rfl, hb1⟩
  go_wp2_with fail
  refine (join_to a b n s1 _ HS1.out.symm ha hb hn').mono ?_
  rintro e w' ⟨rfl, rfl⟩
  go_wp2_with fail
  refine (join_to s1 c m s2 _ HS2.out.symm hl1 hc hm').mono ?_
  rintro e w' ⟨rfl, rfl⟩
  go_wp2_with fail
  refine (join_to b c m s3 _ HS3.out.symm hb hc hm').mono ?_
  rintro e w' ⟨rfl, rfl⟩
  go_wp2_with fail
  rw [← HNM.out]
  refine (join_to a s3 (n + m) s2 _ HR.out ha hl3 hnm').mono ?_
  rintro e w' ⟨rfl, rfl⟩
  go_wp2_with fail
  refine (join_to a 0 0 a _ (by show a ^^^ 0 = a; rw [Nat.xor_zero]) ha (by decide) (by decide)).mono ?_
  rintro e w' ⟨rfl, rfl⟩
  go_wp2_with fail
  refine (join_to 0 b n b _ (Cr.join_zero b n) (by decide) hb hn').mono ?_
  rintro e w' ⟨rfl, rfl⟩
  go_wp2_with fail
  refine (join_neg_to a b s4 _ _ HS4.out.symm ha hb (by omega)).mono ?_
  rintro e w' ⟨rfl, rfl⟩
  go_wp2
  go_ret
  exact ⟨rfl, hb1⟩

set_option maxHeartbeats 1000000 in
theorem crcJoins_out (a b c : Nat) (n m : Int) (w : World) (hH : Hs w) (h : ¬ (0 ≤ n ∧ 0 ≤ m ∧ n ≤ 1099511627776 ∧ m ≤ 1099511627776)) :
    Calls Tryd.prog 5 #[U a, U b, U c, .int .i64 n, .int .i64 m] w (AwakePost w) := by
  have ho : (decide (n < 0) || decide (m < 0) || decide (1099511627776 < n) || decide (1099511627776 < m)) = true := by
    simp only [Bool.or_eq_true, decide_eq_true_eq]
    omega
  obtain ⟨p1, d1⟩ : ∃ p, decide (n < 0) = p := ⟨_, rfl⟩
  obtain ⟨p2, d2⟩ : ∃ p, decide (m < 0) = p := ⟨_, rfl⟩
  obtain ⟨p3, d3⟩ : ∃ p, decide (1099511627776 < n) = p := ⟨_, rfl⟩
  obtain ⟨p4, d4⟩ : ∃ p, decide (1099511627776 < m) = p := ⟨_, rfl⟩
  rw [d1, d2, d3, d4] at ho
  clear h
  go_enter Tryd.func5, Tryd.ntmps5
  go_wp2_with fail
  refine (awake_any w hH).mono ?_
  rintro e w1 ⟨rfl, hb1⟩
  cases p1 <;> cases p2 <;> cases p3 <;> cases p4 <;> first
    | (exfalso; revert ho; decide)
    | (go_wp2; go_ret; exact ⟨rfl, hb1⟩)

theorem crcJoins_any (x0 : Int) (hx0 : (Lit.int .u32 x0).wf = true) (x1 : Int) (hx1 : (Lit.int .u32 x1).wf = true) (x2 : Int) (hx2 : (Lit.int .u32 x2).wf = true) (n m : Int) (w : World) (hH : Hs w) :
    Calls Tryd.prog 5 #[.int .u32 x0, .int .u32 x1, .int .u32 x2, .int .i64 n, .int .i64 m] w (AwakePost w) := by
  have hr : ∀ x : Int, (Lit.int .u32 x).wf = true → ∃ k : Nat, x = (k : Int) ∧ k < 4294967296 := by
    intro x hx
    have e1 : IntKind.u32.min = 0 := by decide
    have e2 : IntKind.u32.max = 4294967295 := by decide
    simp [Lit.wf] at hx
    exact ⟨x.toNat, by omega, by omega⟩
  obtain ⟨a, rfl, ha⟩ := hr x0 hx0
  obtain ⟨b, rfl, hb⟩ := hr x1 hx1
  obtain ⟨c, rfl, hc⟩ := hr x2 hx2
  by_cases h : 0 ≤ n ∧ 0 ≤ m ∧ n ≤ 1099511627776 ∧ m ≤ 1099511627776
  · obtain ⟨h1, h2, h3, h4⟩ := h
    obtain ⟨n', rfl⟩ := Int.eq_ofNat_of_zero_le h1
    obtain ⟨m', rfl⟩ := Int.eq_ofNat_of_zero_le h2
    exact crcJoins_in a b c n' m' w hH ha hb hc (by omega) (by omega)
  · exact crcJoins_out a b c n m w hH h
end Go.Proofs.YtlfdgmiiijjbhaaDoor
