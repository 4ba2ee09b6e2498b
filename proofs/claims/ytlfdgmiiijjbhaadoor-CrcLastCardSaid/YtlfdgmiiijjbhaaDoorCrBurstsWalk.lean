/- What the statement on changes within 32 bits answers, for any slice of bytes, any place and any change, where the table reads as its text lays it: true. -/
import Derived.Test.YtlfdgmiiijjbhaaDoorCrSumsWalk
namespace Go.Proofs.YtlfdgmiiijjbhaaDoor
set_option maxRecDepth 8000
open Go.RowKit

/-- What stands at the loop's head. -/
def BurstRel (w : World) (A9 : Option Addr) (l : List UInt8) (x p : Nat) (i : Value) (wr : World) : Prop :=
  ∃ (k : Nat) (c : List UInt8), k ≤ 32 ∧ i = .int .i64 (k : Int) ∧ c.length = l.length ∧ RowZ w.heap.size wr A9 c ∧ Cr.wd c = Cr.wd l ^^^ x % 2 ^ k * 2 ^ p ∧ Below w.heap.size w wr

set_option maxHeartbeats 2000000 in
theorem crcBursts_in (A : Option Addr) (c0 : Nat) (l : List UInt8) (q x : Nat) (w : World) (hH : Hs w) (ha : BCells w w.heap.size A l) (n : Nat) (hn : l.length = n) (h4 : 4 ≤ n) (hla : n ≤ 300) (hq : q < 65536) (hx : x < 4294967296) (hx0 : x ≠ 0) :
    Calls Tryd.prog 6 #[.slice A n c0, .int .u16 (q : Int), U x] w (AwakePost w) := by
  have hp := hH.pos
  have HN := Lib.hid hn
  clear hn
  have d1 : decide ((n : Int) < 4) = false := by simpa using (by omega : (4 : Int) ≤ (n : Int))
  have d2 : decide (300 < (n : Int)) = false := by simpa using (by omega : (n : Int) ≤ 300)
  have d3 : ((x : Int) == 0) = false := by simpa using hx0
  obtain ⟨D, hD⟩ : ∃ D, D = 8 * n - 31 := ⟨_, rfl⟩
  have hDpos : 0 < D := by omega
  have hDle : D ≤ 2369 := by omega
  obtain ⟨p, hpp⟩ : ∃ p, p = q % D := ⟨_, rfl⟩
  have hpl : p < D := by rw [hpp]; exact Nat.mod_lt _ hDpos
  have r1 : IntKind.i64.wrap (q : Int) = (q : Int) := IntWalk.i64_in _ (by omega)
  obtain ⟨E, hE⟩ : ∃ E, E = 8 * n := ⟨_, rfl⟩
  have r2 : IntKind.i64.wrap (8 * (n : Int)) = (E : Int) := by rw [hE]; rw [IntWalk.i64_in _ (by omega)]; omega
  have r3 : IntKind.i64.wrap ((E : Int) - 31) = (D : Int) := by rw [hE, hD]; rw [IntWalk.i64_in _ (by omega)]; omega
  have r4 : (q : Int) % (D : Int) = (p : Int) := by rw [hpp]; omega
  have HP := Lib.hid hpp
  have HD := Lib.hid hD
  have HE := Lib.hid hE
  clear hpp hD hE
  go_enter Tryd.func6, Tryd.ntmps6
  go_wp2_with fail
  refine (awake_any w hH).mono ?_
  rintro e w1 ⟨rfl, hb1⟩
  have hown0 := row_none w1 w.heap.size hb1.size w1.heap.size rfl
  have hb2 : Below w.heap.size w (w1.alloc (.cells #[] 5)) := hb1.alloc hb1.size _
  have hA2 := ha.keep hb2
  have tok1 : True := trivial
  go_wp2_with (first
    | (at_builtin; have _t := tok1; refine wpList_append_bytes ?hw1 (.tmp 32) (.tmp 33) rfl w.heap.size (.slice (some ⟨w1.heap.size, 0, none⟩) 0 0) A c0 n [] l rfl HN.out rfl hown0 hA2 (by have := HN.out; simp; omega) hb2.size ?_; rotate_right; intro v5 w5 hown5 hgrow5; have hb5 : Below w.heap.size w w5 := hb2.grown hgrow5 hb2.size (fun k hk => (World.ownsRow.lt hown0 k hk).1); clear tok1 hgrow5))
  obtain ⟨A9, c9, hv9, _, _⟩ := hown5.form
  rw [List.nil_append, HN.out] at hv9
  subst hv9
  have hz5 := hown5.rowz
  rw [List.nil_append] at hz5
  clear hown5 hb1 hb2 hA2 hown0 r1 r2 r3 r4 d1 d2
  go_loopw [10] (fun i wr => BurstRel w A9 l x p i wr) (fun i _ => 32 - (intOf i).toNat)
  case atStart => exact ⟨0, l, by omega, rfl, rfl, hz5, by rw [Nat.pow_zero, Nat.mod_one, Nat.zero_mul, Nat.xor_zero], hb5⟩
  case round =>
    obtain ⟨k, c, hk, rfl, hcl, hz, hw, hbr⟩ := hrel
    have HW := Lib.hid hw
    have HCL := Lib.hid hcl
    clear hw hcl hb5 hz5
    by_cases hlt : k < 32
    · have hk0 : (0 : Int) ≤ (k : Int) := by omega
      have hnl := HN.out
      have hcl := HCL.out
      have hDd := HD.out
      obtain ⟨t, ht⟩ : ∃ t, t = p + k := ⟨_, rfl⟩
      obtain ⟨j, hj⟩ : ∃ j, j = t / 8 := ⟨_, rfl⟩
      have hjn : j < c.length := by omega
      have hstep := Cr.burst_step (l := l) (c := c) (x := x) (at_ := p) (i := k) (by omega) HW.out
      obtain ⟨g, cur, rfl, hgb, hg, hgs, hgt⟩ := hz (by omega)
      have e0 := row_cell hg hgt j hjn
      have ef := row_frozen hg j
      obtain ⟨r, hr⟩ : ∃ r, r = t % 8 := ⟨_, rfl⟩
      obtain ⟨x0, hx0'⟩ : ∃ y, y = c[j] := ⟨_, rfl⟩
      obtain ⟨d, hd⟩ : ∃ d, d = UInt8.ofNat (2 ^ r) := ⟨_, rfl⟩
      obtain ⟨y, hy⟩ : ∃ y, y = x0 ^^^ d := ⟨_, rfl⟩
      have hnew := row_set hgb hg hgs hgt j y
      simp only [← ht, ← hj, ← hr, ← hx0', ← hd, ← hy] at hstep e0
      have hd2 : (d.toNat : Int) = 2 ^ r := by
        have h8 : r < 8 := by omega
        have : 2 ^ r < 2 ^ 8 := Nat.pow_lt_pow_right (by decide) h8
        rw [hd, UInt8.toNat_ofNat', Nat.mod_eq_of_lt this]
        simp
      have r8 : IntKind.u8.wrap (2 ^ r : Int) = (d.toNat : Int) := by
        rw [← hd2, IntKind.wrap_u8']
        have := Cr.u8_lt d
        omega
      have hxa : bits .xor .u8 (x0.toNat : Int) (d.toNat : Int) = (y.toNat : Int) := by
        rw [hy, UInt8.toNat_xor]; exact u8_xor_nat _ _ (Cr.u8_lt _) (Cr.u8_lt _)
      obtain ⟨b1, hb1⟩ : ∃ b, b = x / 2 ^ k % 2 := ⟨_, rfl⟩
      have hband : bits .and .u32 ((x : Int) / 2 ^ k) 1 = (b1 : Int) := by
        have e : ((x : Int) / 2 ^ k) = ((x / 2 ^ k : Nat) : Int) := by simp
        rw [e, hb1, ← nat_mask1]
        exact u32_and_nat (x / 2 ^ k) 1 (Nat.lt_of_le_of_lt (Nat.div_le_self _ _) hx) (by decide)
      rw [← hb1] at hstep
      have r5 : IntKind.i64.wrap ((p : Int) + (k : Int)) = (t : Int) := by rw [IntWalk.i64_in _ (by omega)]; omega
      have r5' : (p : Int) + (k : Int) = (t : Int) := by omega
      have r6 : (t : Int) / 8 = (j : Int) := by omega
      have r6' : (t : Int).tdiv 8 = (j : Int) := by rw [Int.tdiv_eq_ediv_of_nonneg (by omega)]; exact r6
      have r7 : (t : Int) % 8 = (r : Int) := by omega
      have r7' : (t : Int).tmod 8 = (r : Int) := by rw [Int.tmod_eq_emod_of_nonneg (by omega)]; exact r7
      have hjI : (j : Int) < (n : Int) := by omega
      have hj0 : (0 : Int) ≤ (j : Int) := by omega
      have hrI : (r : Int) < 8 := by omega
      have hgl : w.heap.size ≤ g := hgb
      have HB := Lib.hid hbr
      have HSTEP := Lib.hid hstep
      have HNEW := Lib.hid hnew
      have HZ := Lib.hid hz
      clear hnl hcl hDd ht hj hjn hstep hg hgs hgt hr hx0' hd hy hd2 hnew hbr hz hH ha
      by_cases h1 : b1 = 1
      · have ht1 : ((b1 : Int) == 1) = true := by simp [h1]
        have HS2 : Hid (Cr.wd (c.set j y) = Cr.wd l ^^^ x % 2 ^ (k + 1) * 2 ^ p) := Lib.hid (by
          have := HSTEP.out
          rwa [if_pos h1] at this)
        clear h1 hb1
        go_wp2
        go_region
        go_wp2
        go_roundw
        case rel =>
          exact ⟨k + 1, c.set j y, by omega, by go_num, by rw [List.length_set]; exact HCL.out, HNEW.out, HS2.out, (HB.out.setCell (p := ⟨g, j, none⟩) hgl _).drew⟩
        case measure => simp [intOf]; omega
      · have ht1 : ((b1 : Int) == 1) = false := by simp; omega
        have HS2 : Hid (Cr.wd c = Cr.wd l ^^^ x % 2 ^ (k + 1) * 2 ^ p) := Lib.hid (by
          have := HSTEP.out
          rwa [if_neg h1] at this)
        clear h1 hb1
        go_wp2
        go_roundw
        case rel =>
          exact ⟨k + 1, c, by omega, by go_num, HCL.out, HZ.out, HS2.out, HB.out⟩
        case measure => simp [intOf]; omega
    · obtain rfl : k = 32 := by omega
      obtain ⟨s, hs⟩ : ∃ s, Cr.sum c = s := ⟨_, rfl⟩
      obtain ⟨s1, hs1⟩ : ∃ s, Cr.sum l = s := ⟨_, rfl⟩
      have hne : ((s : Int) != (s1 : Int)) = true := by
        have h := Cr.burst_end (l := l) (c := c) (x := x) (at_ := p) HCL.out (by have := HN.out; have := HD.out; omega) hx hx0 HW.out
        rw [hs, hs1] at h
        simpa using (by omega : ¬ ((s : Int) = (s1 : Int)))
      have HS := Lib.hid hs
      have HS1 := Lib.hid hs1
      have hcn : Hid (c.length = n) := Lib.hid (by rw [HCL.out, HN.out])
      clear hs hs1
      have hHr := hH.below hbr hp
      have ha' := ha.keep hbr
      go_wp2_with fail
      refine (of_ex c n c9 s A9 wr hHr hcn.out (by omega) hz.bc HS.out).mono ?_
      rintro e w' ⟨rfl, rfl⟩
      go_wp2_with fail
      refine (of_ex l n c0 s1 A wr hHr HN.out (by omega) ha' HS1.out).mono ?_
      rintro e w' ⟨rfl, rfl⟩
      go_wp2
      go_ret
      exact ⟨rfl, hbr⟩

set_option maxHeartbeats 1000000 in
theorem crcBursts_out (A : Option Addr) (c0 n : Nat) (q : Int) (x : Nat) (w : World) (hH : Hs w) (h : n < 4 ∨ 300 < n ∨ x = 0) :
    Calls Tryd.prog 6 #[.slice A n c0, .int .u16 q, U x] w (AwakePost w) := by
  have ho : (decide ((n : Int) < 4) || decide (300 < (n : Int)) || ((x : Int) == 0)) = true := by
    simp only [Bool.or_eq_true, decide_eq_true_eq, beq_iff_eq]
    omega
  obtain ⟨p1, d1⟩ : ∃ p, decide ((n : Int) < 4) = p := ⟨_, rfl⟩
  obtain ⟨p2, d2⟩ : ∃ p, decide (300 < (n : Int)) = p := ⟨_, rfl⟩
  obtain ⟨p3, d3⟩ : ∃ p, ((x : Int) == 0) = p := ⟨_, rfl⟩
  rw [d1, d2, d3] at ho
  clear h
  go_enter Tryd.func6, Tryd.ntmps6
  go_wp2_with fail
  refine (awake_any w hH).mono ?_
  rintro e w1 ⟨rfl, hb1⟩
  cases p1 <;> cases p2 <;> cases p3 <;> first
    | (exfalso; revert ho; decide)
    | (go_wp2; go_ret; exact ⟨rfl, hb1⟩)

theorem crcBursts_any (A : Option Addr) (c0 : Nat) (l : List UInt8) (q : Int) (hq : (Lit.int .u16 q).wf = true) (x : Int) (hx : (Lit.int .u32 x).wf = true) (w : World) (hH : Hs w) (ha : BCells w w.heap.size A l) :
    Calls Tryd.prog 6 #[.slice A l.length c0, .int .u16 q, .int .u32 x] w (AwakePost w) := by
  have e1 : IntKind.u32.min = 0 := by decide
  have e2 : IntKind.u32.max = 4294967295 := by decide
  have e3 : IntKind.u16.min = 0 := by decide
  have e4 : IntKind.u16.max = 65535 := by decide
  simp [Lit.wf] at hq hx
  obtain ⟨q', rfl⟩ := Int.eq_ofNat_of_zero_le (show 0 ≤ q by omega)
  obtain ⟨x', rfl⟩ := Int.eq_ofNat_of_zero_le (show 0 ≤ x by omega)
  by_cases h : l.length < 4 ∨ 300 < l.length ∨ x' = 0
  · exact crcBursts_out A c0 _ _ x' w hH h
  · exact crcBursts_in A c0 l q' x' w hH ha _ rfl (by omega) (by omega) (by omega) (by omega) (by omega)
end Go.Proofs.YtlfdgmiiijjbhaaDoor
