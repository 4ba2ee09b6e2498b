/- What the calls product, Join, ahead and Last of package crc do, for any sums, any number of bytes and any bytes (at most 2^63 - 1 of them), where the table reads as its text lays it. -/
import Derived.Test.YtlfdgmiiijjbhaaDoorCrA
import Derived.Deep.RegionHeld3
namespace Go.Proofs.YtlfdgmiiijjbhaaDoor
set_option maxRecDepth 8000
open Go.RowKit

def ProdRel (w : World) (m a0 : Nat) (g : Nat) (a b s : Value) (wx : World) : Prop :=
  ∃ A S k : Nat, g + k = 32 ∧ A < 4294967296 ∧ A % 2 ^ k = 0 ∧ S < 4294967296 ∧ a = U A ∧ b = U (Cr.sts (m + k) Cr.top) ∧ s = U S ∧ S ^^^ Cr.sts (m + k) A = Cr.sts m a0 ∧ wx = w
theorem prod_pow {A k : Nat} (hk : k < 32) (h : A % 2 ^ k = 0) : (A * 2 % 4294967296) % 2 ^ (k + 1) = 0 := by
  have hd : (2 : Nat) ^ (k + 1) ∣ 4294967296 := by
    have : (4294967296 : Nat) = 2 ^ (k + 1) * 2 ^ (31 - k) := by
      rw [← Nat.pow_add, show k + 1 + (31 - k) = 32 by omega]
    exact ⟨_, this⟩
  rw [Nat.mod_mod_of_dvd _ hd, Nat.pow_succ]
  obtain ⟨q, hq⟩ := Nat.dvd_of_mod_eq_zero h
  exact Nat.mod_eq_zero_of_dvd ⟨q, by rw [hq]; ac_rfl⟩

set_option maxHeartbeats 400000 in
theorem product_any (a m : Nat) (w : World) (ha : a < 4294967296) :
    Calls Tryd.prog 17 #[U a, U (Cr.sts m Cr.top)] w fun e w' => e = .returned (U (Cr.sts m a)) ∧ w = w' := by
  go_enter Tryd.func17, Tryd.ntmps17
  go_wp2
  go_loopg [0, 1, 5] 32 (fun g a' b s wx => ProdRel w m a g a' b s wx)
  case atStart => exact ⟨a, 0, 0, rfl, ha, by omega, by decide, rfl, rfl, rfl, by rw [Nat.zero_xor]; rfl, rfl⟩
  case round =>
    obtain ⟨A, S, k, hg, hA, hz, hS, rfl, rfl, rfl, hi, rfl⟩ := hrel
    have HI := Lib.hid hi
    have HZ := Lib.hid hz
    clear hi hz
    obtain ⟨b, hb⟩ : ∃ b, b = Cr.sts (m + k) Cr.top := ⟨_, rfl⟩
    have hbl : b < 4294967296 := by rw [hb]; exact Cr.sts_lt _ _ (by decide)
    rw [← hb]
    have HB := Lib.hid hb
    clear hb
    by_cases h0 : A = 0
    · subst h0
      go_wp2
      go_ret
      refine ⟨ret_u32 ?_, rfl⟩
      have := HI.out
      rwa [Cr.sts_zero, Nat.xor_zero] at this
    · have hk : k < 32 := by
        rcases Nat.lt_or_ge k 32 with h | h
        · exact h
        · have : k = 32 := by omega
          subst this
          have := HZ.out
          omega
      have hne : ((A : Int) != 0) = true := by simpa using h0
      have hg' : Hid (gk - 1 + (k + 1) = 32) := Lib.hid (by omega)
      have hgk : 1 ≤ gk := by omega
      clear hg
      obtain ⟨b1, hb1⟩ : ∃ x, x = b % 2 := ⟨_, rfl⟩
      have h1 : bits .and .u32 (b : Int) 1 = (b1 : Int) := by rw [hb1, ← nat_mask1]; exact u32_and_nat b 1 hbl (by decide)
      have hb1l : b1 ≤ 1 := by omega
      obtain ⟨t, ht⟩ : ∃ x, x = b1 * 2197175160 := ⟨_, rfl⟩
      have htl : t < 4294967296 := by omega
      have h2 : IntKind.u32.wrap ((b1 : Int) * 2197175160) = (t : Int) := by rw [IntKind.wrap_u32']; omega
      obtain ⟨b', hb'⟩ : ∃ x, x = b / 2 ^^^ t := ⟨_, rfl⟩
      have h3 : bits .xor .u32 ((b : Int) / 2) (t : Int) = (b' : Int) := by rw [hb']; exact u32_xor_nat (b / 2) t (by omega) htl
      have HB' : Hid (b' = Cr.sts (m + (k + 1)) Cr.top) := Lib.hid (by
        rw [hb', ht, hb1, Cr.st_code, HB.out, ← Cr.sts_succ]; rfl)
      obtain ⟨A', hA'⟩ : ∃ x, x = A * 2 % 4294967296 := ⟨_, rfl⟩
      have hA'l : A' < 4294967296 := by omega
      have h4 : IntKind.u32.wrap ((A : Int) * 2) = (A' : Int) := by rw [IntKind.wrap_u32']; omega
      obtain ⟨S', hS'⟩ : ∃ x, x = S ^^^ b := ⟨_, rfl⟩
      have hS'l : S' < 4294967296 := by rw [hS']; exact Nat.xor_lt_two_pow (n := 32) hS hbl
      have h5 : bits .xor .u32 (S : Int) (b : Int) = (S' : Int) := by rw [hS']; exact u32_xor_nat S b hS hbl
      have HA' : Hid (A' % 2 ^ (k + 1) = 0) := Lib.hid (by rw [hA']; exact prod_pow hk HZ.out)
      have HP : Hid ((if A / 2147483648 = 1 then S' else S) ^^^ Cr.sts (m + (k + 1)) A' = Cr.sts m a) := Lib.hid (by
        have := Cr.prod_step (m + k) A S _ hA HI.out
        rw [← HB.out, ← hS', ← hA'] at this
        exact this)
      clear hb1 ht hb' hA' hS'
      by_cases htop : A / 2147483648 = 1
      · have htt : ((A : Int) / 2147483648 == 1) = true := by
          have : (A : Int) / 2147483648 = 1 := by omega
          simp [this]
        have HP' : Hid (S' ^^^ Cr.sts (m + (k + 1)) A' = Cr.sts m a) := Lib.hid (by have := HP.out; rwa [if_pos htop] at this)
        clear htop HP
        go_wp2
        go_roundg (gk - 1)
        case rel => exact ⟨A', S', k + 1, hg'.out, hA'l, HA'.out, hS'l, rfl, by rw [← HB'.out], rfl, HP'.out, rfl⟩
        case measure => omega
      · have htt : ((A : Int) / 2147483648 == 1) = false := by
          have : ¬ ((A : Int) / 2147483648 = 1) := by omega
          simpa using this
        have HP' : Hid (S ^^^ Cr.sts (m + (k + 1)) A' = Cr.sts m a) := Lib.hid (by have := HP.out; rwa [if_neg htop] at this)
        clear htop HP
        go_wp2
        go_roundg (gk - 1)
        case rel => exact ⟨A', S, k + 1, hg'.out, hA'l, HA'.out, hS, rfl, by rw [← HB'.out], rfl, HP'.out, rfl⟩
        case measure => omega

theorem i64_and1 (N : Nat) (h : N ≤ 9223372036854775807) : bits .and .i64 (N : Int) 1 = ((N % 2 : Nat) : Int) := by
  have h1 : (BitVec.ofInt 64 1).toNat = 2 ^ 1 - 1 := by decide
  have key : (BitVec.ofInt 64 (N : Int) &&& BitVec.ofInt 64 1).toNat = ((N : Int) % ((2 ^ 64 : Nat) : Int)).toNat % 2 ^ 1 := by
    rw [BitVec.toNat_and, BitVec.toNat_ofInt, h1, Nat.and_two_pow_sub_one_eq_mod]
  show IntKind.i64.wrap ((BitVec.ofInt 64 (N : Int) &&& BitVec.ofInt 64 1).toNat : Nat) = _
  rw [key, IntKind.wrap_i64]
  omega

theorem join_odd {e N A t : Nat} (hN : N % 2 = 1) (h : Cr.sts (e * N) A = t) : Cr.sts ((e + e) * (N / 2)) (Cr.sts e A) = t := by
  rw [← Cr.sts_add, ← h]
  congr 1
  have : N = 2 * (N / 2) + 1 := by omega
  rw [Nat.add_mul]
  have h2 : e * N = e * (N / 2) + e * (N / 2) + e := by
    conv => lhs; rw [this]
    rw [Nat.mul_add, Nat.mul_one, Nat.two_mul, Nat.mul_add]
  omega
theorem join_even {e N A t : Nat} (hN : ¬ N % 2 = 1) (h : Cr.sts (e * N) A = t) : Cr.sts ((e + e) * (N / 2)) A = t := by
  rw [← h]
  congr 1
  have : N = 2 * (N / 2) := by omega
  rw [Nat.add_mul]
  have h2 : e * N = e * (N / 2) + e * (N / 2) := by
    conv => lhs; rw [this]
    rw [Nat.two_mul, Nat.mul_add]
  omega

def JoinRel (a0 n0 : Nat) (a n s : Value) : Prop :=
  ∃ A N e : Nat, A < 4294967296 ∧ N ≤ 9223372036854775807 ∧ a = U A ∧ n = .int .i64 (N : Int) ∧ s = U (Cr.sts e Cr.top) ∧ Cr.sts (e * N) A = Cr.sts (8 * n0) a0

set_option maxHeartbeats 400000 in
theorem join_any (a b n : Nat) (w : World) (ha : a < 4294967296) (hb : b < 4294967296) (hn : n ≤ 9223372036854775807) :
    Calls Tryd.prog 14 #[U a, U b, .int .i64 (n : Int)] w fun e w' => e = .returned (U (Cr.join a b n)) ∧ w = w' := by
  go_enter Tryd.func14, Tryd.ntmps14
  go_wp2
  go_loop [0, 2, 7] (fun a' n' s => JoinRel a n a' n' s) (fun _ n' _ => (intOf n').toNat)
  case atStart => exact ⟨a, n, 8, ha, hn, rfl, rfl, by rw [Cr.one_byte]; rfl, rfl⟩
  case round =>
    obtain ⟨A, N, e, hA, hN, rfl, rfl, rfl, hi⟩ := hrel
    have HI := Lib.hid hi
    clear hi
    by_cases h0 : N = 0
    · subst h0
      obtain ⟨y, hy⟩ : ∃ y, y = A ^^^ b := ⟨_, rfl⟩
      have h1 : bits .xor .u32 (A : Int) (b : Int) = (y : Int) := by rw [hy]; exact u32_xor_nat A b hA hb
      have HY := Lib.hid hy
      clear hy
      go_wp2
      go_ret
      refine ⟨ret_u32 ?_, rfl⟩
      rw [HY.out]
      unfold Cr.join
      rw [← HI.out]
      rfl
    · have hpos : 0 < N := by omega
      clear h0
      have h1 := i64_and1 N hN
      obtain ⟨r, hr⟩ : ∃ r, r = N % 2 := ⟨_, rfl⟩
      rw [← hr] at h1
      have HN2 : Hid (((N / 2 : Nat) : Int) = (N : Int) / 2) := Lib.hid (by omega)
      by_cases hodd : N % 2 = 1
      · have h2 : ((r : Int) == 1) = true := by
          have : r = 1 := by omega
          simp [this]
        have HR := Lib.hid hr
        have HO := Lib.hid hodd
        clear hr hodd
        go_wp2_with (go_at_call 17; refine (product_any _ e _ (by first | assumption | exact Cr.sts_lt _ _ (by decide))).mono ?_; rintro e' w' ⟨rfl, rfl⟩)
        go_round
        case rel =>
          exact ⟨Cr.sts e A, N / 2, e + e, Cr.sts_lt _ _ hA, by omega, rfl, by rw [HN2.out], by rw [Cr.sts_add], join_odd HO.out HI.out⟩
        case measure => simp [intOf]; omega
      · have h2 : ((r : Int) == 1) = false := by
          have : r = 0 := by omega
          simp [this]
        have HR := Lib.hid hr
        have HO := Lib.hid hodd
        clear hr hodd
        go_wp2_with (go_at_call 17; refine (product_any _ e _ (by first | assumption | exact Cr.sts_lt _ _ (by decide))).mono ?_; rintro e' w' ⟨rfl, rfl⟩)
        go_round
        case rel =>
          exact ⟨A, N / 2, e + e, hA, by omega, rfl, by rw [HN2.out], by rw [Cr.sts_add], join_even HO.out HI.out⟩
        case measure => simp [intOf]; omega

set_option maxHeartbeats 400000 in
theorem join_neg (a b : Nat) (n : Int) (w : World) (ha : a < 4294967296) (hb : b < 4294967296) (hn : n ≤ 0) :
    Calls Tryd.prog 14 #[U a, U b, .int .i64 n] w fun e w' => e = .returned (U (a ^^^ b)) ∧ w = w' := by
  obtain ⟨y, hy⟩ : ∃ y, y = a ^^^ b := ⟨_, rfl⟩
  have h1 : bits .xor .u32 (a : Int) (b : Int) = (y : Int) := by rw [hy]; exact u32_xor_nat a b ha hb
  rw [← hy]
  clear hy
  go_enter Tryd.func14, Tryd.ntmps14
  go_wp2
  go_loop [0, 2, 7] (fun a' n' _ => a' = U a ∧ n' = .int .i64 n) (fun _ _ _ => 0)
  case atStart => exact ⟨rfl, rfl⟩
  case round =>
    obtain ⟨rfl, rfl⟩ := hrel
    go_wp2
    go_ret
    exact ⟨rfl, rfl⟩

theorem ah_up {y : Nat} (h1 : 2147483648 ≤ y) (h2 : y < 4294967296) : bits .or .u32 (IntKind.u32.wrap (((y ^^^ Cr.P : Nat) : Int) * 2)) 1 = (Cr.ah y : Int) := by
  have hl := Cr.top_gone h1 h2
  rw [IntKind.wrap_u32', show ((y ^^^ Cr.P : Nat) : Int) * 2 % 4294967296 = (((y ^^^ Cr.P) * 2 : Nat) : Int) by omega]
  rw [show (1 : Int) = ((1 : Nat) : Int) by rfl, u32_or_nat _ _ (by omega) (by decide), nat_join 1 _ 1 (by omega) (by decide)]
  unfold Cr.ah
  rw [if_pos h1]

set_option maxHeartbeats 400000 in
theorem ahead_any (y0 : Nat) (w : World) (hy0 : y0 < 4294967296) :
    Calls Tryd.prog 18 #[U y0] w fun e w' => e = .returned (U (Cr.ahs 32 y0)) ∧ w = w' := by
  go_enter Tryd.func18, Tryd.ntmps18
  go_wp2
  go_loop [0, 3] (fun a i => ∃ k : Nat, k ≤ 32 ∧ i = .int .i64 (k : Int) ∧ a = U (Cr.ahs k y0)) (fun _ i => 32 - (intOf i).toNat)
  case atStart => exact ⟨0, by omega, rfl, rfl⟩
  case round =>
    obtain ⟨k, hk, rfl, rfl⟩ := hrel
    obtain ⟨y, hy⟩ : ∃ y, y = Cr.ahs k y0 := ⟨_, rfl⟩
    have hyl : y < 4294967296 := by rw [hy]; exact Cr.ahs_lt k hy0
    rw [← hy]
    have HY := Lib.hid hy
    clear hy
    by_cases hlt : k < 32
    · obtain ⟨z, hz⟩ : ∃ z, z = Cr.ah y := ⟨_, rfl⟩
      by_cases htop : y / 2147483648 = 1
      · have htt : ((y : Int) / 2147483648 == 1) = true := by
          have : (y : Int) / 2147483648 = 1 := by omega
          simp [this]
        have h1 : bits .xor .u32 (y : Int) 2197175160 = ((y ^^^ Cr.P : Nat) : Int) := u32_xor_nat y 2197175160 hyl (by decide)
        have h2 := ah_up (y := y) (by omega) hyl
        rw [← hz] at h2
        obtain ⟨x, hx⟩ : ∃ x, x = y ^^^ Cr.P := ⟨_, rfl⟩
        rw [← hx] at h1 h2
        obtain ⟨x2, hx2⟩ : ∃ x2, x2 = IntKind.u32.wrap ((x : Int) * 2) := ⟨_, rfl⟩
        rw [← hx2] at h2
        have h3 := hx2.symm
        have HZ := Lib.hid hz
        clear hz hx hx2 htop
        go_wp2
        go_round
        case rel => exact ⟨k + 1, by omega, by go_num, by rw [HZ.out, HY.out]; rfl⟩
        case measure => simp [intOf]; omega
      · have htt : ((y : Int) / 2147483648 == 1) = false := by
          have : ¬ ((y : Int) / 2147483648 = 1) := by omega
          simpa using this
        have h1 : IntKind.u32.wrap ((y : Int) * 2) = (z : Int) := by
          rw [IntKind.wrap_u32', hz]
          unfold Cr.ah
          rw [if_neg (by omega)]
          omega
        have HZ := Lib.hid hz
        clear hz htop
        go_wp2
        go_round
        case rel => exact ⟨k + 1, by omega, by go_num, by rw [HZ.out, HY.out]; rfl⟩
        case measure => simp [intOf]; omega
    · obtain rfl : k = 32 := by omega
      go_wp2
      go_ret
      exact ⟨by rw [HY.out]; rfl, rfl⟩
end Go.Proofs.YtlfdgmiiijjbhaaDoor
