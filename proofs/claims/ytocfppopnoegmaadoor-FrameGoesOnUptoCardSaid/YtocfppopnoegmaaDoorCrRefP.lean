/- A register's bits, one by one, and what the document's own way of letting bits in comes to; no program stands in it. No condition. -/
import Derived.Test.YtocfppopnoegmaaDoorCrPure
namespace Go.Proofs.YtocfppopnoegmaaDoor
set_option maxRecDepth 8000
namespace Cr

def bit (x i : Nat) : Nat := x / 2 ^ i % 2
theorem bit_le (x i : Nat) : bit x i ≤ 1 := by unfold bit; omega
theorem bit_zero (x : Nat) : bit x 0 = x % 2 := by unfold bit; rw [Nat.pow_zero, Nat.div_one]
theorem bit_half (x i : Nat) : bit (x / 2) i = bit x (i + 1) := by
  unfold bit
  rw [Nat.div_div_eq_div_mul, Nat.pow_succ, Nat.mul_comm]
theorem bit_xor (x y i : Nat) : bit (x ^^^ y) i = (bit x i + bit y i) % 2 := by
  unfold bit
  rw [Nat.xor_div_two_pow, xor_mod_two]
theorem bit_mx_all : ∀ i : Nat, i < 32 → bit mx i = 1 := by decide +kernel
theorem bit_mx (x i : Nat) (hi : i < 32) : bit (mx ^^^ x) i = 1 - bit x i := by
  rw [bit_xor, bit_mx_all i hi]
  have := bit_le x i
  omega
theorem bit_over {x : Nat} (h : x < 4294967296) : bit x 32 = 0 := by
  unfold bit
  rw [Nat.div_eq_of_lt h]
/-- A bit goes in. -/
theorem feed_odd {x b : Nat} (hb : b ≤ 1) (h : (x % 2 + b) % 2 = 1) (i : Nat) : bit (st (x ^^^ b)) i = (bit (x / 2) i + bit P i) % 2 := by
  unfold st
  rw [xor_mod_two, Nat.xor_div_two, show b / 2 = 0 by omega, Nat.xor_zero, show (x % 2 + b % 2) % 2 = 1 by omega, Nat.one_mul, bit_xor]
theorem feed_even {x b : Nat} (hb : b ≤ 1) (h : ¬ (x % 2 + b) % 2 = 1) (i : Nat) : bit (st (x ^^^ b)) i = bit (x / 2) i := by
  unfold st
  rw [xor_mod_two, Nat.xor_div_two, show b / 2 = 0 by omega, Nat.xor_zero, show (x % 2 + b % 2) % 2 = 0 by omega, Nat.zero_mul, Nat.xor_zero]
/-- The bits of a byte, one behind the other: what is in, and what is to come. -/
theorem feed_step {x y c k : Nat} (h : x ^^^ c / 2 ^ k = sts k y) : st (x ^^^ (c / 2 ^ k % 2)) ^^^ c / 2 ^ (k + 1) = sts (k + 1) y := by
  rw [sts_succ, ← h]
  have e : c / 2 ^ k = c / 2 ^ (k + 1) * 2 ^^^ c / 2 ^ k % 2 := by
    have := part 1 (c / 2 ^ k)
    rw [Nat.pow_one, Nat.div_div_eq_div_mul, ← Nat.pow_succ] at this
    exact this
  have e2 : x ^^^ c / 2 ^ k = (x ^^^ c / 2 ^ k % 2) ^^^ c / 2 ^ (k + 1) * 2 := by
    have : x ^^^ c / 2 ^ k = x ^^^ (c / 2 ^ (k + 1) * 2 ^^^ c / 2 ^ k % 2) := by rw [← e]
    rw [this]
    ac_rfl
  rw [e2, st_xor (x ^^^ c / 2 ^ k % 2) (c / 2 ^ (k + 1) * 2), st_double]
theorem out_step (y j : Nat) : 2 * (y / 2 ^ (j + 1)) + bit y j = y / 2 ^ j := by
  unfold bit
  rw [Nat.pow_succ, ← Nat.div_div_eq_div_mul]
  omega
theorem half_pow (c k : Nat) : c / 2 ^ k / 2 = c / 2 ^ (k + 1) := by rw [Nat.div_div_eq_div_mul, ← Nat.pow_succ]
theorem go_one (r : Nat) (l : List UInt8) (c : UInt8) : go r (l ++ [c]) = sts 8 (go r l ^^^ c.toNat) := by
  unfold go
  rw [List.foldl_append]
  rfl
end Cr
end Go.Proofs.YtocfppopnoegmaaDoor
