/- Plain functions on registers of 32 bits, as natural numbers, and what follows of them (sums that tell what was changed); no program stands in it. No condition. What the calls More and Of of package crc do, for any sum and any bytes, where the table reads as its text lays it; texts of at most 2^63 - 1 bytes. -/
import Derived.Test.YtfceljbmdcbciaaDoorRows
import Derived.WalkKit
import Derived.WalkSpells
import Derived.WalkLawsBesides
import Derived.Lib.Hide
import Derived.Deep.MidRow
import Derived.Laws.BitsAllLaws
import Derived.Laws.IdiomStrings
import Derived.RegionTactic
import Derived.Deep.LoopGhost
import Derived.Deep.QuietTactic
import Derived.BigQuiet
import Derived.IntWalk
namespace Go.Proofs.YtfceljbmdcbciaaDoor
set_option maxRecDepth 8000
namespace Cr

def P : Nat := 2197175160
def mx : Nat := 4294967295
/-- A bit 0 goes in. -/
def st (r : Nat) : Nat := r / 2 ^^^ r % 2 * P
def sts : Nat → Nat → Nat
  | 0, r => r
  | n + 1, r => sts n (st r)

theorem xor_mod_two (a b : Nat) : (a ^^^ b) % 2 = (a % 2 + b % 2) % 2 := by
  have e : (a ^^^ b) % 2 = a % 2 ^^^ b % 2 := by simpa using Nat.xor_mod_two_pow (a := a) (b := b) (n := 1)
  rw [e]
  rcases Nat.mod_two_eq_zero_or_one a with h1 | h1 <;> rcases Nat.mod_two_eq_zero_or_one b with h2 | h2 <;> rw [h1, h2] <;> decide
theorem st_xor (a b : Nat) : st (a ^^^ b) = st a ^^^ st b := by
  unfold st
  rw [Nat.xor_div_two]
  have h : (a ^^^ b) % 2 * P = a % 2 * P ^^^ b % 2 * P := by
    rw [xor_mod_two]
    rcases Nat.mod_two_eq_zero_or_one a with h1 | h1 <;> rcases Nat.mod_two_eq_zero_or_one b with h2 | h2 <;> rw [h1, h2] <;> decide
  rw [h]
  ac_rfl
theorem sts_xor (n : Nat) : ∀ a b : Nat, sts n (a ^^^ b) = sts n a ^^^ sts n b := by
  induction n with
  | zero => intro a b; rfl
  | succ n ih => intro a b; show sts n (st (a ^^^ b)) = _; rw [st_xor, ih]; rfl
theorem st_zero : st 0 = 0 := by decide
theorem sts_zero (n : Nat) : sts n 0 = 0 := by
  induction n with
  | zero => rfl
  | succ n ih => show sts n (st 0) = 0; rw [st_zero, ih]
theorem sts_add (m : Nat) : ∀ (n a : Nat), sts (n + m) a = sts m (sts n a) := by
  intro n
  induction n with
  | zero => intro a; rw [Nat.zero_add]; rfl
  | succ n ih => intro a; rw [show n + 1 + m = (n + m) + 1 by omega]; show sts (n + m) (st a) = _; rw [ih]; rfl
theorem sts_succ (n a : Nat) : sts (n + 1) a = st (sts n a) := by rw [sts_add 1 n a]; rfl
theorem st_lt {a : Nat} (h : a < 4294967296) : st a < 4294967296 := by
  unfold st
  refine Nat.xor_lt_two_pow (n := 32) (by omega) ?_
  have : a % 2 ≤ 1 := by omega
  have := Nat.mul_le_mul_right P this
  have e : P = 2197175160 := rfl
  omega
theorem sts_lt (n : Nat) : ∀ a : Nat, a < 4294967296 → sts n a < 4294967296 := by
  induction n with
  | zero => intro a h; exact h
  | succ n ih => intro a h; exact ih _ (st_lt h)
theorem st_double (x : Nat) : st (x * 2) = x := by
  unfold st
  rw [show x * 2 / 2 = x by omega, show x * 2 % 2 = 0 by omega, Nat.zero_mul, Nat.xor_zero]
theorem sts_double (n : Nat) : ∀ x : Nat, sts n (x * 2 ^ n) = x := by
  induction n with
  | zero => intro x; show x * 2 ^ 0 = x; omega
  | succ n ih =>
    intro x
    show sts n (st (x * 2 ^ (n + 1))) = x
    rw [show x * 2 ^ (n + 1) = (x * 2 ^ n) * 2 by rw [Nat.pow_succ, Nat.mul_assoc], st_double, ih]
/-- What a register was, ahead of a bit 0. -/
def ah (y : Nat) : Nat := if 2147483648 ≤ y then (y ^^^ P) * 2 + 1 else y * 2
theorem st_ah (y : Nat) : st (ah y) = y := by
  unfold ah
  split
  · unfold st
    rw [show ((y ^^^ P) * 2 + 1) / 2 = y ^^^ P by omega, show ((y ^^^ P) * 2 + 1) % 2 = 1 by omega, Nat.one_mul, Nat.xor_assoc, Nat.xor_self, Nat.xor_zero]
  · exact st_double y
theorem top_gone {y : Nat} (h1 : 2147483648 ≤ y) (h2 : y < 4294967296) : y ^^^ P < 2147483648 := by
  have e : (y ^^^ P) / 2 ^ 31 = y / 2 ^ 31 ^^^ P / 2 ^ 31 := Nat.xor_div_two_pow
  rw [show y / 2 ^ 31 = 1 by omega, show P / 2 ^ 31 = 1 by decide, Nat.xor_self] at e
  omega
theorem ah_lt {y : Nat} (h : y < 4294967296) : ah y < 4294967296 := by
  unfold ah
  split
  · have := top_gone ‹_› h; omega
  · omega
theorem ah_st {r : Nat} (h : r < 4294967296) : ah (st r) = r := by
  rcases Nat.mod_two_eq_zero_or_one r with h1 | h1
  · have e : st r = r / 2 := by unfold st; rw [h1, Nat.zero_mul, Nat.xor_zero]
    rw [e]; unfold ah; rw [if_neg (by omega)]; omega
  · have e : st r = r / 2 ^^^ P := by unfold st; rw [h1, Nat.one_mul]
    have e2 : (r / 2 ^^^ P) / 2 ^ 31 = r / 2 / 2 ^ 31 ^^^ P / 2 ^ 31 := Nat.xor_div_two_pow
    rw [show r / 2 / 2 ^ 31 = 0 by omega, show P / 2 ^ 31 = 1 by decide, Nat.zero_xor] at e2
    rw [e]; unfold ah
    rw [if_pos (by omega), Nat.xor_assoc, Nat.xor_self, Nat.xor_zero]
    omega
theorem st_eq_zero {r : Nat} (h : r < 4294967296) (h0 : st r = 0) : r = 0 := by
  have := ah_st h
  rw [h0] at this
  exact this.symm
theorem sts_eq_zero (n : Nat) : ∀ r : Nat, r < 4294967296 → sts n r = 0 → r = 0 := by
  induction n with
  | zero => intro r _ h; exact h
  | succ n ih => intro r h h0; exact st_eq_zero h (ih _ (st_lt h) h0)
def ahs : Nat → Nat → Nat
  | 0, y => y
  | n + 1, y => ah (ahs n y)
theorem sts_ahs (n : Nat) : ∀ y, sts n (ahs n y) = y := by
  induction n with
  | zero => intro y; rfl
  | succ n ih => intro y; show sts n (st (ah (ahs n y))) = y; rw [st_ah, ih]
theorem ahs_lt (n : Nat) {y : Nat} (h : y < 4294967296) : ahs n y < 4294967296 := by
  induction n with
  | zero => exact h
  | succ n ih => exact ah_lt ih

/-- The table. -/
def H : List Nat := [0, 274646895, 549293790, 820201905, 1098587580, 1361435347, 1640403810, 1905808397, 2197175160, 2460548119, 2722870694, 2987750089, 3280807620, 3553878443, 3811616794, 4084100981]
def hv (k : Nat) : Nat := H.getD k 0
theorem hv_sts : ∀ k : Nat, k < 16 → sts 4 k = hv k := by decide +kernel
theorem hv_lt : ∀ k : Nat, k < 16 → hv k < 4294967296 := by decide +kernel
theorem part (k y : Nat) : y = y / 2 ^ k * 2 ^ k ^^^ y % 2 ^ k := by
  have h1 : (y / 2 ^ k * 2 ^ k ^^^ y % 2 ^ k) / 2 ^ k = y / 2 ^ k := by
    rw [Nat.xor_div_two_pow, Nat.mul_div_cancel _ (Nat.two_pow_pos k), Nat.div_eq_of_lt (Nat.mod_lt y (Nat.two_pow_pos k)), Nat.xor_zero]
  have h2 : (y / 2 ^ k * 2 ^ k ^^^ y % 2 ^ k) % 2 ^ k = y % 2 ^ k := by
    rw [Nat.xor_mod_two_pow, Nat.mul_mod_left, Nat.zero_xor, Nat.mod_mod]
  have h3 := Nat.div_add_mod (y / 2 ^ k * 2 ^ k ^^^ y % 2 ^ k) (2 ^ k)
  rw [h1, h2, Nat.div_add_mod] at h3
  exact h3
theorem nib (y : Nat) : y / 16 ^^^ hv (y % 16) = sts 4 y := by
  have e : sts 4 (y / 2 ^ 4 * 2 ^ 4 ^^^ y % 2 ^ 4) = y / 16 ^^^ hv (y % 16) := by
    rw [sts_xor, sts_double, hv_sts _ (Nat.mod_lt y (by decide))]
  rw [← part 4 y] at e
  exact e.symm

/-- A byte goes in. -/
def gi (r : Nat) (c : UInt8) : Nat := sts 8 (r ^^^ c.toNat)
def go (r : Nat) (l : List UInt8) : Nat := l.foldl gi r
def more (s : Nat) (l : List UInt8) : Nat := mx ^^^ go (mx ^^^ s) l
def sum (l : List UInt8) : Nat := more 0 l
theorem u8_lt (a : UInt8) : a.toNat < 256 := UInt8.toNat_lt a
theorem gi_lt {r : Nat} (h : r < 4294967296) (c : UInt8) : gi r c < 4294967296 :=
  sts_lt 8 _ (Nat.xor_lt_two_pow (n := 32) h (by have := u8_lt c; omega))
theorem go_lt (l : List UInt8) : ∀ {r : Nat}, r < 4294967296 → go r l < 4294967296 := by
  induction l with
  | nil => intro r h; exact h
  | cons c l ih => intro r h; exact ih (gi_lt h c)
theorem mx_lt {r : Nat} (h : r < 4294967296) : mx ^^^ r < 4294967296 := Nat.xor_lt_two_pow (n := 32) (by decide) h
theorem more_lt (l : List UInt8) {s : Nat} (h : s < 4294967296) : more s l < 4294967296 := mx_lt (go_lt l (mx_lt h))
theorem sum_lt (l : List UInt8) : sum l < 4294967296 := more_lt l (by decide)
theorem go_snoc (r : Nat) (l : List UInt8) (c : UInt8) : go r (l ++ [c]) = sts 4 (sts 4 (go r l ^^^ c.toNat)) := by
  unfold go
  rw [List.foldl_append]
  show sts 8 _ = _
  rw [show (8 : Nat) = 4 + 4 by decide, sts_add]
theorem go_app (r : Nat) (a b : List UInt8) : go r (a ++ b) = go (go r a) b := by unfold go; rw [List.foldl_append]
theorem mx_mx (x : Nat) : mx ^^^ (mx ^^^ x) = x := by rw [← Nat.xor_assoc, Nat.xor_self, Nat.zero_xor]
/-- More of a part's sum. -/
theorem more_sum (s : Nat) (a b : List UInt8) : more (more s a) b = more s (a ++ b) := by
  unfold more
  rw [mx_mx, go_app]

/-- Bytes as a number, the lowest one first. -/
def wd : List UInt8 → Nat
  | [] => 0
  | c :: l => c.toNat ^^^ wd l * 256
theorem go_wd (l : List UInt8) : ∀ r : Nat, go r l = sts (8 * l.length) (r ^^^ wd l) := by
  induction l with
  | nil => intro r; show r = r ^^^ 0; rw [Nat.xor_zero]
  | cons c l ih =>
    intro r
    show go (gi r c) l = sts (8 * (l.length + 1)) (r ^^^ (c.toNat ^^^ wd l * 256))
    rw [ih, show 8 * (l.length + 1) = 8 + 8 * l.length by omega, sts_add, ← Nat.xor_assoc, sts_xor 8, show wd l * 256 = wd l * 2 ^ 8 by rfl, sts_double]
    rfl

def join (a b n : Nat) : Nat := sts (8 * n) a ^^^ b
theorem go_two (l : List UInt8) (a b : Nat) : go (a ^^^ b) l = sts (8 * l.length) a ^^^ go b l := by
  rw [go_wd, go_wd, Nat.xor_assoc, sts_xor]
theorem join_sum (a b : List UInt8) : join (sum a) (sum b) b.length = sum (a ++ b) := by
  rw [show sum (a ++ b) = more (sum a) b from (more_sum 0 a b).symm]
  unfold join sum more
  have e : go (mx ^^^ (mx ^^^ go (mx ^^^ 0) a)) b = sts (8 * b.length) (mx ^^^ go (mx ^^^ 0) a) ^^^ go (mx ^^^ 0) b := by
    rw [Nat.xor_zero, Nat.xor_comm mx (mx ^^^ go mx a), go_two]
  rw [e]
  ac_rfl
theorem join_lt {a b : Nat} (ha : a < 4294967296) (hb : b < 4294967296) (n : Nat) : join a b n < 4294967296 := Nat.xor_lt_two_pow (n := 32) (sts_lt _ _ ha) hb
theorem join_join (a b c n m : Nat) : join (join a b n) c m = join a (join b c m) (n + m) := by
  unfold join
  rw [sts_xor, show 8 * (n + m) = 8 * n + 8 * m by omega, sts_add, Nat.xor_assoc]
theorem join_no (a b : Nat) : join a b 0 = a ^^^ b := rfl
theorem join_zero (b n : Nat) : join 0 b n = b := by unfold join; rw [sts_zero, Nat.zero_xor]

/-- The highest bit alone. -/
def top : Nat := 2147483648
theorem one_byte : sts 8 top = 8388608 := by decide +kernel
/-- One step of the product: what is left of a, and the sum. -/
theorem prod_step (m a s t : Nat) (ha : a < 4294967296) (h : s ^^^ sts m a = t) :
    (if a / 2147483648 = 1 then s ^^^ sts m top else s) ^^^ sts (m + 1) (a * 2 % 4294967296) = t := by
  rw [← h, Nat.add_comm m 1, sts_add m 1]
  show _ ^^^ sts m (st (a * 2 % 4294967296)) = _
  split
  · rename_i h1
    have e : a = top ^^^ (a - 2147483648) := by
      have := part 31 a
      rw [show a / 2 ^ 31 * 2 ^ 31 = top by unfold top; omega, show a % 2 ^ 31 = a - 2147483648 by omega] at this
      exact this
    rw [show a * 2 % 4294967296 = (a - 2147483648) * 2 by omega, st_double]
    have e2 : sts m a = sts m top ^^^ sts m (a - 2147483648) := by rw [← sts_xor, ← e]
    rw [e2, Nat.xor_assoc]
  · rw [show a * 2 % 4294967296 = a * 2 by omega, st_double]
theorem st_code (b : Nat) : b / 2 ^^^ b % 2 * 2197175160 = st b := rfl

/-- The four bytes of a word. -/
def four (w : Nat) : List UInt8 := [UInt8.ofNat w, UInt8.ofNat (w / 256), UInt8.ofNat (w / 65536), UInt8.ofNat (w / 16777216)]
theorem wd_four {w : Nat} (h : w < 4294967296) : wd (four w) = w := by
  have e : ∀ n : Nat, (UInt8.ofNat n).toNat = n % 2 ^ 8 := fun n => UInt8.toNat_ofNat'
  unfold four
  simp only [wd, e, Nat.zero_mul, Nat.xor_zero]
  have h3 : w / 16777216 % 2 ^ 8 = w / 65536 / 2 ^ 8 := by omega
  rw [h3, Nat.xor_comm (w / 65536 % 2 ^ 8)]
  show (w % 2 ^ 8) ^^^ ((w / 256 % 2 ^ 8) ^^^ (w / 65536 / 2 ^ 8 * 2 ^ 8 ^^^ w / 65536 % 2 ^ 8) * 256) * 256 = w
  rw [← part 8 (w / 65536), show w / 65536 = w / 256 / 2 ^ 8 by omega, Nat.xor_comm (w / 256 % 2 ^ 8)]
  show (w % 2 ^ 8) ^^^ (w / 256 / 2 ^ 8 * 2 ^ 8 ^^^ w / 256 % 2 ^ 8) * 256 = w
  rw [← part 8 (w / 256), Nat.xor_comm]
  show w / 2 ^ 8 * 2 ^ 8 ^^^ w % 2 ^ 8 = w
  exact (part 8 w).symm
theorem sum_four (l : List UInt8) {w : Nat} (h : w < 4294967296) : sum (l ++ four w) = mx ^^^ sts 32 (go (mx ^^^ 0) l ^^^ w) := by
  unfold sum more
  rw [go_app, go_wd (four w), wd_four h]
  rfl
/-- The word with which a sum comes out. -/
def lastW (l : List UInt8) (want : Nat) : Nat := ahs 32 (mx ^^^ want) ^^^ (mx ^^^ sum l)
theorem lastW_lt (l : List UInt8) {want : Nat} (h : want < 4294967296) : lastW l want < 4294967296 :=
  Nat.xor_lt_two_pow (n := 32) (ahs_lt 32 (mx_lt h)) (mx_lt (sum_lt l))
theorem sum_last (l : List UInt8) {want x : Nat} (h : want < 4294967296) (hx : x < 4294967296) : sum (l ++ four (lastW l want ^^^ x)) = want ^^^ sts 32 x := by
  rw [sum_four l (Nat.xor_lt_two_pow (n := 32) (lastW_lt l h) hx)]
  unfold lastW sum more
  rw [mx_mx]
  have e : go (mx ^^^ 0) l ^^^ (ahs 32 (mx ^^^ want) ^^^ go (mx ^^^ 0) l ^^^ x) = ahs 32 (mx ^^^ want) ^^^ x := by
    rw [Nat.xor_comm (ahs 32 _), Nat.xor_assoc (go _ _), ← Nat.xor_assoc (go _ _) (go _ _), Nat.xor_self, Nat.zero_xor]
  rw [e, sts_xor, sts_ahs, ← Nat.xor_assoc, mx_mx]
theorem xor_eq_left {a b : Nat} (h : a ^^^ b = a) : b = 0 := by
  have : a ^^^ (a ^^^ b) = 0 := by rw [h, Nat.xor_self]
  rwa [← Nat.xor_assoc, Nat.xor_self, Nat.zero_xor] at this
theorem last_only {want x : Nat} (hx : x < 4294967296) (h : want ^^^ sts 32 x = want) : x = 0 := sts_eq_zero 32 x hx (xor_eq_left h)

/-- Three texts, place by place. -/
def x3 : List UInt8 → List UInt8 → List UInt8 → List UInt8
  | a :: l, b :: m, c :: n => (a ^^^ b ^^^ c) :: x3 l m n
  | _, _, _ => []
theorem x3_len : ∀ (a b c : List UInt8), b.length = a.length → c.length = a.length → (x3 a b c).length = a.length
  | [], _, _, _, _ => rfl
  | _ :: l, b :: m, c :: n, h1, h2 => by show (x3 l m n).length + 1 = l.length + 1; rw [x3_len l m n (by simpa using h1) (by simpa using h2)]
theorem go_x3 : ∀ (a b c : List UInt8) (p q r : Nat), b.length = a.length → c.length = a.length → go (p ^^^ q ^^^ r) (x3 a b c) = go p a ^^^ go q b ^^^ go r c
  | [], [], [], _, _, _, _, _ => rfl
  | a :: l, b :: m, c :: n, p, q, r, h1, h2 => by
    show go (gi (p ^^^ q ^^^ r) (a ^^^ b ^^^ c)) (x3 l m n) = go (gi p a) l ^^^ go (gi q b) m ^^^ go (gi r c) n
    rw [← go_x3 l m n _ _ _ (by simpa using h1) (by simpa using h2)]
    congr 1
    unfold gi
    rw [← sts_xor, ← sts_xor, UInt8.toNat_xor, UInt8.toNat_xor]
    congr 1
    ac_rfl
theorem sum_x3 (a b c : List UInt8) (h1 : b.length = a.length) (h2 : c.length = a.length) : sum (x3 a b c) = sum a ^^^ sum b ^^^ sum c := by
  unfold sum more
  have e : mx ^^^ 0 = (mx ^^^ 0) ^^^ (mx ^^^ 0) ^^^ (mx ^^^ 0) := by rw [Nat.xor_self, Nat.zero_xor]
  have h := go_x3 a b c (mx ^^^ 0) (mx ^^^ 0) (mx ^^^ 0) h1 h2
  rw [← e] at h
  rw [h]
  have e2 : ∀ x y z : Nat, mx ^^^ (x ^^^ y ^^^ z) = (mx ^^^ x) ^^^ (mx ^^^ y) ^^^ (mx ^^^ z) := by
    intro x y z
    have : (mx ^^^ x) ^^^ (mx ^^^ y) ^^^ (mx ^^^ z) = (mx ^^^ (mx ^^^ mx)) ^^^ (x ^^^ y ^^^ z) := by ac_rfl
    rw [this, Nat.xor_self, Nat.xor_zero]
  exact e2 _ _ _

/-- A byte is changed. -/
theorem wd_set : ∀ (l : List UInt8) (i : Nat) (x : UInt8) (h : i < l.length), wd (l.set i (l[i] ^^^ x)) = wd l ^^^ x.toNat * 2 ^ (8 * i)
  | c :: l, 0, x, _ => by
    show (c ^^^ x).toNat ^^^ wd l * 256 = (c.toNat ^^^ wd l * 256) ^^^ x.toNat * 2 ^ (8 * 0)
    rw [UInt8.toNat_xor, Nat.mul_zero, Nat.pow_zero, Nat.mul_one]
    ac_rfl
  | c :: l, i + 1, x, h => by
    have h' : i < l.length := by simpa using h
    show c.toNat ^^^ wd (l.set i (l[i] ^^^ x)) * 256 = (c.toNat ^^^ wd l * 256) ^^^ x.toNat * 2 ^ (8 * (i + 1))
    rw [wd_set l i x h', show (wd l ^^^ x.toNat * 2 ^ (8 * i)) * 256 = wd l * 256 ^^^ x.toNat * 2 ^ (8 * (i + 1)) by
      have := Nat.shiftLeft_xor_distrib (a := wd l) (b := x.toNat * 2 ^ (8 * i)) (i := 8)
      rw [Nat.shiftLeft_eq, Nat.shiftLeft_eq, Nat.shiftLeft_eq] at this
      rw [show (256 : Nat) = 2 ^ 8 by decide, this, Nat.mul_assoc, ← Nat.pow_add]
      rfl]
    rw [Nat.xor_assoc]
/-- The bits of a change that are in by now. -/
theorem low_succ (x i : Nat) : x % 2 ^ (i + 1) = x % 2 ^ i ^^^ (x / 2 ^ i % 2) * 2 ^ i := by
  have h := part i (x % 2 ^ (i + 1))
  have h1 : x % 2 ^ (i + 1) / 2 ^ i = x / 2 ^ i % 2 := by
    rw [Nat.pow_succ, Nat.mod_mul_right_div_self]
  have h2 : x % 2 ^ (i + 1) % 2 ^ i = x % 2 ^ i := Nat.mod_mod_of_dvd _ (Nat.pow_dvd_pow 2 (by omega))
  rw [h1, h2, Nat.xor_comm] at h
  exact h
theorem burst_step {l c : List UInt8} {x at_ i : Nat} (hi : (at_ + i) / 8 < c.length) (h : wd c = wd l ^^^ x % 2 ^ i * 2 ^ at_) :
    wd (if x / 2 ^ i % 2 = 1 then c.set ((at_ + i) / 8) (c[(at_ + i) / 8] ^^^ UInt8.ofNat (2 ^ ((at_ + i) % 8))) else c) = wd l ^^^ x % 2 ^ (i + 1) * 2 ^ at_ := by
  have hd : (x % 2 ^ i ^^^ (x / 2 ^ i % 2) * 2 ^ i) * 2 ^ at_ = x % 2 ^ i * 2 ^ at_ ^^^ (x / 2 ^ i % 2) * 2 ^ i * 2 ^ at_ := by
    have := Nat.shiftLeft_xor_distrib (a := x % 2 ^ i) (b := (x / 2 ^ i % 2) * 2 ^ i) (i := at_)
    rwa [Nat.shiftLeft_eq, Nat.shiftLeft_eq, Nat.shiftLeft_eq] at this
  rw [low_succ, hd, ← Nat.xor_assoc, ← h]
  split
  · rename_i h1
    rw [wd_set c _ _ hi, h1, Nat.one_mul, ← Nat.pow_add]
    have e : (UInt8.ofNat (2 ^ ((at_ + i) % 8))).toNat = 2 ^ ((at_ + i) % 8) := by
      rw [UInt8.toNat_ofNat']
      refine Nat.mod_eq_of_lt (Nat.pow_lt_pow_right (by decide) (by omega))
    rw [e, ← Nat.pow_add, show (at_ + i) % 8 + 8 * ((at_ + i) / 8) = i + at_ by omega]
  · rename_i h1
    rw [show x / 2 ^ i % 2 = 0 by omega, Nat.zero_mul, Nat.zero_mul, Nat.xor_zero]
theorem burst_end {l c : List UInt8} {x at_ : Nat} (hl : c.length = l.length) (ha : at_ + 32 ≤ 8 * l.length) (hx : x < 4294967296) (h0 : x ≠ 0) (h : wd c = wd l ^^^ x % 2 ^ 32 * 2 ^ at_) : sum c ≠ sum l := by
  intro he
  unfold sum more at he
  have h1 : ∀ a b : Nat, mx ^^^ a = mx ^^^ b → a = b := fun a b hab => by rw [← mx_mx a, hab, mx_mx]
  have h2 := h1 _ _ he
  rw [go_wd, go_wd, hl, h, ← Nat.xor_assoc, sts_xor _ (_ ^^^ wd l)] at h2
  have h3 := xor_eq_left h2
  rw [Nat.mod_eq_of_lt (by omega), show 8 * l.length = at_ + (8 * l.length - at_) by omega, sts_add, sts_double] at h3
  exact h0 (sts_eq_zero _ _ hx h3)
end Cr
end Go.Proofs.YtfceljbmdcbciaaDoor
namespace Go.Proofs.YtfceljbmdcbciaaDoor
set_option maxRecDepth 8000
open Go.RowKit

abbrev B (c : UInt8) : Value := .int .u8 (c.toNat : Int)
abbrev U (n : Nat) : Value := .int .u32 (n : Int)
theorem ret_bool {a b : Bool} (h : a = b) : Ending.returned (.bool a) = .returned (.bool b) := by rw [h]
theorem ret_u32 {a b : Nat} (h : a = b) : Ending.returned (.int .u32 (a : Int)) = .returned (.int .u32 (b : Int)) := by rw [h]
theorem ret_u32' {a : Int} {b : Nat} (h : a = b) : Ending.returned (.int .u32 a) = .returned (.int .u32 (b : Int)) := by rw [h]

/-- The table, as its text lays it. -/
def tabCells : List Value := Cr.H.map fun (n : Nat) => Value.int .u32 (n : Int)
def Hs (w : World) : Prop := w.rangeAt 0 0 tabCells
theorem Hs.cell {w : World} (h : Hs w) {k : Nat} (hk : k < 16) : w.cell? ⟨0, k, none⟩ = some (.int .u32 (Cr.hv k : Int)) := by
  have hl : Cr.H.length = 16 := rfl
  have := h k (.int .u32 (Cr.hv k : Int)) (by simp [tabCells, Cr.hv, List.getD, List.getElem?_eq_getElem (show k < Cr.H.length by omega)])
  rwa [Nat.zero_add] at this
/-- The slice at A holds the bytes l. -/
def BC (w : World) (A : Option Addr) (l : List UInt8) : Prop :=
  0 < l.length → ∃ b off, A = some ⟨b, off, none⟩ ∧ ∀ k (h : k < l.length), w.cell? ⟨b, off + k, none⟩ = some (B l[k])
theorem wrap_u8_u32 (c : UInt8) : IntKind.u32.wrap (c.toNat : Int) = (c.toNat : Int) := by
  have := Cr.u8_lt c
  rw [IntKind.wrap_u32']; omega

set_option maxHeartbeats 400000 in
theorem more_any (s : Nat) (A : Option Addr) (l : List UInt8) (cap : Nat) (w : World) (hs : s < 4294967296) (hH : Hs w) (hl : l.length ≤ 9223372036854775807) (hb : BC w A l) :
    Calls Tryd.prog 91 #[U s, .slice A l.length cap] w fun e w' => e = .returned (U (Cr.more s l)) ∧ w = w' := by
  obtain ⟨x0, hx0⟩ : ∃ x, x = Cr.mx ^^^ s := ⟨_, rfl⟩
  have h0 : bits .xor .u32 4294967295 (s : Int) = (x0 : Int) := by rw [hx0]; exact u32_xor_nat 4294967295 s (by decide) hs
  have hsg : IntKind.u32.signed = false := rfl
  have hmx : IntKind.u32.max = 4294967295 := by decide
  have hx0l : x0 < 4294967296 := by rw [hx0]; exact Cr.mx_lt hs
  have H0 := Lib.hid hx0
  clear hx0
  go_enter Tryd.func91, Tryd.ntmps91
  go_wp2
  clear h0
  go_loop [5, 12] (fun x i => ∃ k : Nat, k ≤ l.length ∧ i = .int .i64 k ∧ x = U (Cr.go x0 (l.take k))) (fun _ i => l.length - (intOf i).toNat)
  case atStart => exact ⟨0, Nat.zero_le _, rfl, rfl⟩
  case round =>
    obtain ⟨k, hk, rfl, rfl⟩ := hrel
    obtain ⟨x, hx⟩ : ∃ x, x = Cr.go x0 (l.take k) := ⟨_, rfl⟩
    have hxl : x < 4294967296 := by rw [hx]; exact Cr.go_lt _ hx0l
    rw [← hx]
    have HX := Lib.hid hx
    clear hx
    by_cases hlt : k < l.length
    · obtain ⟨b, off, rfl, hcell⟩ := hb (by omega)
      have hc := hcell k hlt
      clear hcell
      have hcw := wrap_u8_u32 l[k]
      have hcl := Cr.u8_lt l[k]
      obtain ⟨c, hc0⟩ : ∃ c, c = l[k].toNat := ⟨_, rfl⟩
      rw [B, ← hc0] at hc
      rw [← hc0] at hcw hcl
      have HC := Lib.hid hc0
      clear hc0
      obtain ⟨y, hy⟩ : ∃ y, y = x ^^^ c := ⟨_, rfl⟩
      have h1 : bits .xor .u32 (x : Int) (c : Int) = (y : Int) := by rw [hy]; exact u32_xor_nat x c hxl (by omega)
      have hyl : y < 4294967296 := by rw [hy]; exact Nat.xor_lt_two_pow (n := 32) hxl (by omega)
      have HY := Lib.hid hy
      clear hy
      obtain ⟨j, hj⟩ : ∃ j, j = y % 16 := ⟨_, rfl⟩
      have h2 : bits .and .u32 (y : Int) 15 = (j : Int) := by rw [hj, ← nat_mask4]; exact u32_and_nat y 15 hyl (by decide)
      have hjl : j < 16 := by omega
      have hcj := hH.cell hjl
      obtain ⟨z, hz⟩ : ∃ z, z = y / 16 ^^^ Cr.hv j := ⟨_, rfl⟩
      have h3 : bits .xor .u32 ((y : Int) / 16) (Cr.hv j : Int) = (z : Int) := by
        rw [hz]; exact u32_xor_nat (y / 16) (Cr.hv j) (by omega) (Cr.hv_lt j hjl)
      have hzl : z < 4294967296 := by rw [hz]; exact Nat.xor_lt_two_pow (n := 32) (by omega) (Cr.hv_lt j hjl)
      have HZ : Hid (z = Cr.sts 4 y) := Lib.hid (by rw [hz, hj, Cr.nib])
      clear hz hj
      obtain ⟨i, hi⟩ : ∃ i, i = z % 16 := ⟨_, rfl⟩
      have h4 : bits .and .u32 (z : Int) 15 = (i : Int) := by rw [hi, ← nat_mask4]; exact u32_and_nat z 15 hzl (by decide)
      have hil : i < 16 := by omega
      have hci := hH.cell hil
      obtain ⟨v, hv⟩ : ∃ v, v = z / 16 ^^^ Cr.hv i := ⟨_, rfl⟩
      have h5 : bits .xor .u32 ((z : Int) / 16) (Cr.hv i : Int) = (v : Int) := by
        rw [hv]; exact u32_xor_nat (z / 16) (Cr.hv i) (by omega) (Cr.hv_lt i hil)
      have HV : Hid (v = Cr.sts 4 z) := Lib.hid (by rw [hv, hi, Cr.nib])
      clear hv hi
      go_wp2
      go_round
      case rel =>
        refine ⟨k + 1, by omega, by go_num, ?_⟩
        rw [List.take_succ_eq_append_getElem hlt, Cr.go_snoc, ← HX.out, ← HC.out, ← HY.out, ← HZ.out, ← HV.out]
      case measure => simp [intOf]; omega
    · obtain ⟨y, hy⟩ : ∃ y, y = Cr.mx ^^^ x := ⟨_, rfl⟩
      have h1 : bits .xor .u32 4294967295 (x : Int) = (y : Int) := by rw [hy]; exact u32_xor_nat 4294967295 x (by decide) hxl
      have HY := Lib.hid hy
      clear hy
      go_wp2
      go_ret
      refine ⟨ret_u32 ?_, rfl⟩
      rw [HY.out, HX.out, List.take_of_length_le (by omega), H0.out]
      rfl

set_option maxHeartbeats 400000 in
theorem of_any (A : Option Addr) (l : List UInt8) (cap : Nat) (w : World) (hH : Hs w) (hl : l.length ≤ 9223372036854775807) (hb : BC w A l) :
    Calls Tryd.prog 92 #[.slice A l.length cap] w fun e w' => e = .returned (U (Cr.sum l)) ∧ w = w' := by
  go_enter Tryd.func92, Tryd.ntmps92
  go_wp2_with (go_at_call 91; refine (more_any 0 _ _ _ _ (by decide) hH hl hb).mono ?_; rintro e w' ⟨rfl, rfl⟩)
  go_ret
  exact ⟨rfl, rfl⟩
end Go.Proofs.YtfceljbmdcbciaaDoor
