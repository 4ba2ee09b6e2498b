/- What the statement on parts answers, for any two slices of bytes, where the table reads as its text lays it: true. -/
import Derived.Test.YtlfdgmiiijjbhaaDoorCrApp
import Derived.Test.YtlfdgmiiijjbhaaDoorCrLaid
import Derived.Test.YtlfdgmiiijjbhaaDoorCrJoinsWalk
namespace Go.Proofs.YtlfdgmiiijjbhaaDoor
set_option maxRecDepth 8000
open Go.RowKit

theorem more_to (s t n : Nat) (A : Option Addr) (l : List UInt8) (cap : Nat) (w : World) (hn : l.length = n) (ht : Cr.more s l = t) (hs : s < 4294967296) (hH : Hs w) (hl : n ≤ 9223372036854775807) (hb : BC w A l) :
    Calls Tryd.prog 12 #[U s, .slice A n cap] w fun e w' => e = .returned (U t) ∧ w = w' := by
  subst hn ht
  exact more_any s A l cap w hs hH hl hb
theorem BCells.keep {w w' : World} {A : Option Addr} {l : List UInt8} (h : BCells w w.heap.size A l) (hb : Below w.heap.size w w') : BC w' A l := (h.below hb).bc

set_option maxHeartbeats 1000000 in
theorem crcParts_in (A A1 : Option Addr) (c0 c1 : Nat) (a b : List UInt8) (w : World) (hH : Hs w) (ha : BCells w w.heap.size A a) (hb : BCells w w.heap.size A1 b) (hla : a.length ≤ 300) (hlb : b.length ≤ 300) :
    Calls Tryd.prog 4 #[.slice A a.length c0, .slice A1 b.length c1] w (AwakePost w) := by
  have hp := hH.pos
  obtain ⟨n, hn⟩ : ∃ n, a.length = n := ⟨_, rfl⟩
  obtain ⟨m, hm⟩ : ∃ m, b.length = m := ⟨_, rfl⟩
  rw [hn] at hla ⊢
  rw [hm] at hlb ⊢
  have HN := Lib.hid hn
  have HM := Lib.hid hm
  clear hn hm
  have d1 : decide (300 < (n : Int)) = false := by simpa using (by omega : (n : Int) ≤ 300)
  have d2 : decide (300 < (m : Int)) = false := by simpa using (by omega : (m : Int) ≤ 300)
  obtain ⟨s, hs⟩ : ∃ s, Cr.sum (a ++ b) = s := ⟨_, rfl⟩
  obtain ⟨s1, hs1⟩ : ∃ s, Cr.sum a = s := ⟨_, rfl⟩
  obtain ⟨s2, hs2⟩ : ∃ s, Cr.sum b = s := ⟨_, rfl⟩
  have hl1 : s1 < 4294967296 := by rw [← hs1]; exact Cr.sum_lt a
  have hl2 : s2 < 4294967296 := by rw [← hs2]; exact Cr.sum_lt b
  have HM1 : Hid (Cr.more s1 b = s) := Lib.hid (by rw [← hs1, ← hs]; exact Cr.more_sum 0 a b)
  have HJ : Hid (Cr.join s1 s2 m = s) := Lib.hid (by rw [← hs1, ← hs2, ← HM.out, Cr.join_sum, hs])
  have HS := Lib.hid hs
  have HS1 := Lib.hid hs1
  have HS2 := Lib.hid hs2
  clear hs hs1 hs2
  go_enter Tryd.func4, Tryd.ntmps4
  go_wp2_with fail
  refine (awake_any w hH).mono ?_
  rintro e w1 ⟨rfl, hb1⟩
  have hown0 := row_none w1 w.heap.size hb1.size w1.heap.size rfl
  have hb2 : Below w.heap.size w (w1.alloc (.cells #[] 5)) := hb1.alloc hb1.size _
  have hA2 := ha.keep hb2
  have tok1 : True := trivial
  have tok2 : True := trivial
  go_wp2_with (first
    | (at_builtin; have _t := tok1; refine wpList_append_bytes ?hw1 (.tmp 18) (.tmp 19) rfl w.heap.size (.slice (some ⟨w1.heap.size, 0, none⟩) 0 0) A c0 n [] a rfl HN.out rfl hown0 hA2 (by have := HN.out; simp; omega) hb2.size ?_; rotate_right; intro v5 w5 hown5 hgrow5; have hb5 : Below w.heap.size w w5 := hb2.grown hgrow5 hb2.size (fun k hk => (World.ownsRow.lt hown0 k hk).1); clear tok1 hgrow5; have hA5 := hb.keep hb5)
    | (at_builtin; have _t := tok2; have _h := hown5; refine wpList_append_bytes ?hw2 (.tmp 20) (.tmp 21) rfl w.heap.size v5 A1 c1 m ([] ++ a) b rfl HM.out rfl hown5 hA5 (by have := HN.out; have := HM.out; simp; omega) hb5.size ?_; rotate_right; intro v6 w6 hown6 hgrow6; have hb6 : Below w.heap.size w w6 := hb5.grown hgrow6 hb5.size (fun k hk => (World.ownsRow.lt hown5 k hk).1); clear tok2 hgrow6))
  obtain ⟨A6, c6, hv6, hA6, _⟩ := hown6.form
  subst hv6
  obtain ⟨z, hz⟩ : ∃ z, [] ++ a ++ b = z := ⟨_, rfl⟩
  rw [hz] at hA6 hown6 ⊢
  have HZ : Hid (Cr.sum z = s) := Lib.hid (by rw [← hz, List.nil_append]; exact HS.out)
  obtain ⟨k, hk⟩ : ∃ k, z.length = k := ⟨_, rfl⟩
  have hkl : k ≤ 600 := by
    have := HN.out
    have := HM.out
    rw [← hk, ← hz]
    simp
    omega
  rw [hk] at hown6 ⊢
  have HK := Lib.hid hk
  clear hk hz hown6 hown5
  have hH6 := hH.below hb6 hp
  have ha6 := ha.keep hb6
  have hb6' := hb.keep hb6
  clear hA5 hA2 hb5 hb2 hb1 hown0 hH
  refine (of_ex z k c6 s A6 w6 hH6 HK.out (by omega) hA6 HZ.out).mono ?_
  rintro e w' ⟨rfl, rfl⟩
  go_wp2_with fail
  refine (of_ex a n c0 s1 A w6 hH6 HN.out (by omega) ha6 HS1.out).mono ?_
  rintro e w' ⟨rfl, rfl⟩
  go_wp2_with fail
  refine (more_to s1 s m A1 b c1 w6 HM.out HM1.out hl1 hH6 (by omega) hb6').mono ?_
  rintro e w' ⟨rfl, rfl⟩
  go_wp2_with fail
  refine (of_ex a n c0 s1 A w6 hH6 HN.out (by omega) ha6 HS1.out).mono ?_
  rintro e w' ⟨rfl, rfl⟩
  go_wp2_with fail
  refine (of_ex b m c1 s2 A1 w6 hH6 HM.out (by omega) hb6' HS2.out).mono ?_
  rintro e w' ⟨rfl, rfl⟩
  go_wp2_with fail
  refine (join_to s1 s2 m s w6 HJ.out hl1 hl2 (by omega)).mono ?_
  rintro e w' ⟨rfl, rfl⟩
  go_wp2
  go_ret
  exact ⟨rfl, hb6⟩

set_option maxHeartbeats 1000000 in
theorem crcParts_out (A A1 : Option Addr) (c0 c1 n m : Nat) (w : World) (hH : Hs w) (h : 300 < n ∨ 300 < m) :
    Calls Tryd.prog 4 #[.slice A n c0, .slice A1 m c1] w (AwakePost w) := by
  have ho : (decide (300 < (n : Int)) || decide (300 < (m : Int))) = true := by
    simp only [Bool.or_eq_true, decide_eq_true_eq]
    omega
  obtain ⟨p1, d1⟩ : ∃ p, decide (300 < (n : Int)) = p := ⟨_, rfl⟩
  obtain ⟨p2, d2⟩ : ∃ p, decide (300 < (m : Int)) = p := ⟨_, rfl⟩
  rw [d1, d2] at ho
  clear h
  go_enter Tryd.func4, Tryd.ntmps4
  go_wp2_with fail
  refine (awake_any w hH).mono ?_
  rintro e w1 ⟨rfl, hb1⟩
  cases p1 <;> cases p2 <;> first
    | (exfalso; revert ho; decide)
    | (go_wp2; go_ret; exact ⟨rfl, hb1⟩)

theorem crcParts_any (A : Option Addr) (c0 : Nat) (a : List UInt8) (A1 : Option Addr) (c1 : Nat) (b : List UInt8) (w : World) (hH : Hs w) (ha : BCells w w.heap.size A a) (hb : BCells w w.heap.size A1 b) :
    Calls Tryd.prog 4 #[.slice A a.length c0, .slice A1 b.length c1] w (AwakePost w) := by
  by_cases h1 : a.length ≤ 300
  · by_cases h2 : b.length ≤ 300
    · exact crcParts_in A A1 c0 c1 a b w hH ha hb h1 h2
    · exact crcParts_out A A1 c0 c1 _ _ w hH (.inr (by omega))
  · exact crcParts_out A A1 c0 c1 _ _ w hH (.inl (by omega))
end Go.Proofs.YtlfdgmiiijjbhaaDoor
