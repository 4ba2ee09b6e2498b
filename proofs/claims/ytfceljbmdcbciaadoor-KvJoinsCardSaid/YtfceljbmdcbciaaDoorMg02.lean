/- A register's bits, one by one, and what the document's own way of letting bits in comes to; no program stands in it. No condition. What the document's own calls bit and More of sums do, for any sum and any bytes (at most 2^63 - 1 of them). -/
import Derived.Test.YtfceljbmdcbciaaDoorMg00
import Derived.Test.YtfceljbmdcbciaaDoorMg01
namespace Go.Proofs.YtfceljbmdcbciaaDoor
set_option maxRecDepth 8000
namespace Cr

def bit (x i : Nat) : Nat := x / 2 ^ i % 2
theorem bit_le (x i : Nat) : bit x i ≤ 1 := by unfold bit; omega
theorem bit_zero (x : Nat) : bit x 0 = x % 2 := by unfold bit; rw [Nat.pow_zero, Nat.div_one]
theorem bit_half (x i : Nat) : bit (x / 2) i = bit x (i + 1) := by
  unfold bit
  rw [Nat.div_div_eq_div_mul, Nat.pow_succ, Nat.mul_comm]
theorem bit_xor (x y i : Nat) : bit (x ^^^ y) i = (bit x i + bit y i) % 2 := by
  unfold bit
  rw [Nat.xor_div_two_pow, xor_mod_two]
theorem bit_mx_all : ∀ i : Nat, i < 32 → bit mx i = 1 := by decide +kernel
theorem bit_mx (x i : Nat) (hi : i < 32) : bit (mx ^^^ x) i = 1 - bit x i := by
  rw [bit_xor, bit_mx_all i hi]
  have := bit_le x i
  omega
theorem bit_over {x : Nat} (h : x < 4294967296) : bit x 32 = 0 := by
  unfold bit
  rw [Nat.div_eq_of_lt h]
/-- A bit goes in. -/
theorem feed_odd {x b : Nat} (hb : b ≤ 1) (h : (x % 2 + b) % 2 = 1) (i : Nat) : bit (st (x ^^^ b)) i = (bit (x / 2) i + bit P i) % 2 := by
  unfold st
  rw [xor_mod_two, Nat.xor_div_two, show b / 2 = 0 by omega, Nat.xor_zero, show (x % 2 + b % 2) % 2 = 1 by omega, Nat.one_mul, bit_xor]
theorem feed_even {x b : Nat} (hb : b ≤ 1) (h : ¬ (x % 2 + b) % 2 = 1) (i : Nat) : bit (st (x ^^^ b)) i = bit (x / 2) i := by
  unfold st
  rw [xor_mod_two, Nat.xor_div_two, show b / 2 = 0 by omega, Nat.xor_zero, show (x % 2 + b % 2) % 2 = 0 by omega, Nat.zero_mul, Nat.xor_zero]
/-- The bits of a byte, one behind the other: what is in, and what is to come. -/
theorem feed_step {x y c k : Nat} (h : x ^^^ c / 2 ^ k = sts k y) : st (x ^^^ (c / 2 ^ k % 2)) ^^^ c / 2 ^ (k + 1) = sts (k + 1) y := by
  rw [sts_succ, ← h]
  have e : c / 2 ^ k = c / 2 ^ (k + 1) * 2 ^^^ c / 2 ^ k % 2 := by
    have := part 1 (c / 2 ^ k)
    rw [Nat.pow_one, Nat.div_div_eq_div_mul, ← Nat.pow_succ] at this
    exact this
  have e2 : x ^^^ c / 2 ^ k = (x ^^^ c / 2 ^ k % 2) ^^^ c / 2 ^ (k + 1) * 2 := by
    have : x ^^^ c / 2 ^ k = x ^^^ (c / 2 ^ (k + 1) * 2 ^^^ c / 2 ^ k % 2) := by rw [← e]
    rw [this]
    ac_rfl
  rw [e2, st_xor (x ^^^ c / 2 ^ k % 2) (c / 2 ^ (k + 1) * 2), st_double]
theorem out_step (y j : Nat) : 2 * (y / 2 ^ (j + 1)) + bit y j = y / 2 ^ j := by
  unfold bit
  rw [Nat.pow_succ, ← Nat.div_div_eq_div_mul]
  omega
theorem half_pow (c k : Nat) : c / 2 ^ k / 2 = c / 2 ^ (k + 1) := by rw [Nat.div_div_eq_div_mul, ← Nat.pow_succ]
theorem go_one (r : Nat) (l : List UInt8) (c : UInt8) : go r (l ++ [c]) = sts 8 (go r l ^^^ c.toNat) := by
  unfold go
  rw [List.foldl_append]
  rfl
end Cr
end Go.Proofs.YtfceljbmdcbciaaDoor
namespace Go.Proofs.YtfceljbmdcbciaaDoor
set_option maxRecDepth 8000
open Go.RowKit

abbrev I (n : Nat) : Value := .int .i64 (n : Int)
/-- 32 cells, by a function. -/
def Fc (f : Nat → Nat) : Array Value := ((List.range 32).map fun i => I (f i)).toArray
def BF (w : World) (g : Nat) (f : Nat → Nat) : Prop := w.heap[g]? = some (.cells (Fc f) 3 (0, 0))
theorem BF.cell {w : World} {g : Nat} {f : Nat → Nat} (h : BF w g f) {k : Nat} (hk : k < 32) : w.cell? ⟨g, k, none⟩ = some (I (f k)) := by
  rw [cell_of_row w g k _ 3 (0, 0) h]
  simp [Fc, hk]
theorem BF.frozen {w : World} {g : Nat} {f : Nat → Nat} (h : BF w g f) (k : Nat) : w.frozen? ⟨g, k, none⟩ = false := by
  unfold BF at h
  simp [World.frozen?, h]
theorem BF.congr {w : World} {g : Nat} {f f' : Nat → Nat} (h : BF w g f) (hf : ∀ i, i < 32 → f i = f' i) : BF w g f' := by
  have e : Fc f = Fc f' := by
    unfold Fc
    congr 1
    apply List.map_congr_left
    intro i hi
    rw [hf i (by simpa using hi)]
  unfold BF at h ⊢
  rw [h, e]
theorem BF.set {w : World} {g : Nat} {f : Nat → Nat} (h : BF w g f) (k v : Nat) : BF (w.setCell ⟨g, k, none⟩ (I v)) g (fun i => if i = k then v else f i) := by
  have e : (Fc f).setIfInBounds k (I v) = Fc (fun i => if i = k then v else f i) := by
    apply Array.ext
    · simp [Fc]
    · intro i h1 h2
      rw [Array.getElem_setIfInBounds (by simpa using h1)]
      by_cases hik : k = i
      · rw [if_pos hik]; simp [Fc, hik]
      · have hik' : ¬ i = k := fun e => hik e.symm
        rw [if_neg hik]; simp [Fc, hik']
  unfold BF at h ⊢
  simp [World.setCell, Array.getElem?_modify, h, e]
theorem BF.drew {w : World} {g : Nat} {f : Nat → Nat} (h : BF w g f) : BF w.drew g f := h

def BitPost (W : World) (base g : Nat) (f : Nat → Nat) (e : Ending) (w' : World) : Prop := e = .returned (.tuple #[]) ∧ BF w' g f ∧ Below base W w'
def ShiftRel (W : World) (base g x : Nat) (i : Value) (wr : World) : Prop :=
  ∃ k : Nat, k ≤ 31 ∧ i = I k ∧ BF wr g (fun j => if j < k then Cr.bit x (j + 1) else Cr.bit x j) ∧ Below base W wr
def PolyRel (W : World) (base g x : Nat) (p i : Value) (wr : World) : Prop :=
  ∃ k : Nat, k ≤ 32 ∧ i = I k ∧ p = U (Cr.P / 2 ^ k) ∧ BF wr g (fun j => if j < k then (Cr.bit (x / 2) j + Cr.bit Cr.P j) % 2 else Cr.bit (x / 2) j) ∧ Below base W wr

set_option maxHeartbeats 1000000 in
theorem bit_any (W : World) (base g x b : Nat) (w : World) (hx : x < 4294967296) (hb1 : b ≤ 1) (hg : BF w g (Cr.bit x)) (hbase : base ≤ g) (hbl : Below base W w) :
    Calls Tryd.prog 119 #[.slice (some ⟨g, 0, none⟩) 32 32, I b] w (BitPost W base g (Cr.bit (Cr.st (x ^^^ b)))) := by
  obtain ⟨m, hm⟩ : ∃ m, m = x % 2 := ⟨_, rfl⟩
  have c0 : w.cell? ⟨g, 0, none⟩ = some (I m) := by rw [hm, ← Cr.bit_zero]; exact hg.cell (by decide)
  obtain ⟨s, hs⟩ : ∃ s, s = (m + b) % 2 := ⟨_, rfl⟩
  have r1 : IntKind.i64.wrap ((m : Int) + (b : Int)) = (m : Int) + (b : Int) := IntWalk.i64_in _ (by omega)
  have R2 : Hid (((m : Int) + (b : Int)) % 2 = (s : Int)) := Lib.hid (by omega)
  have hodd : Hid (s = 1 → ∀ i, Cr.bit (Cr.st (x ^^^ b)) i = (Cr.bit (x / 2) i + Cr.bit Cr.P i) % 2) := Lib.hid (fun h i => Cr.feed_odd hb1 (by rw [← hm, ← hs, h]) i)
  have heven : Hid (¬ s = 1 → ∀ i, Cr.bit (Cr.st (x ^^^ b)) i = Cr.bit (x / 2) i) := Lib.hid (fun h i => Cr.feed_even hb1 (by rw [← hm, ← hs]; exact h) i)
  have hm0 : m ≤ 1 := by omega
  clear hm hs
  go_enter Tryd.func119, Tryd.ntmps119
  go_wp2
  go_loopw [5] (fun i wr => ShiftRel W base g x i wr) (fun i _ => 31 - (intOf i).toNat)
  case atStart => exact ⟨0, by omega, rfl, hg.congr (fun i _ => by rw [if_neg (by omega)]), hbl⟩
  case round =>
    obtain ⟨k, hk, rfl, hf, hbr⟩ := hrel
    clear c0 hg hbl r1
    by_cases hlt : k < 31
    · obtain ⟨y, hy⟩ : ∃ y, y = Cr.bit x (k + 1) := ⟨_, rfl⟩
      have c1 : wr.cell? ⟨g, k + 1, none⟩ = some (I y) := by
        have := hf.cell (k := k + 1) (by omega)
        rw [if_neg (by omega), ← hy] at this
        exact this
      have c2 := hf.cell (k := k) (by omega)
      have ff := hf.frozen k
      have HN := Lib.hid (hf.set k y)
      have HY := Lib.hid hy
      have HB := Lib.hid hbr
      have r3 : IntKind.i64.wrap ((k : Int) + 1) = (k : Int) + 1 := IntWalk.i64_in _ (by omega)
      clear hf hy hbr
      go_wp2
      go_roundw
      case rel =>
        refine ⟨k + 1, by omega, by go_num, HN.out.congr (fun i _ => ?_), HB.out.setCell (p := ⟨g, k, none⟩) hbase _⟩
        by_cases h1 : i = k
        · subst h1; rw [if_pos rfl, if_pos (by omega)]; exact HY.out
        · rw [if_neg h1]
          by_cases h2 : i < k
          · rw [if_pos h2, if_pos (by omega)]
          · rw [if_neg h2, if_neg (by omega)]
      case measure => simp [intOf]; omega
    · obtain rfl : k = 31 := by omega
      have c1 := hf.cell (k := 31) (by decide)
      have ff := hf.frozen 31
      have HN : Hid (BF (wr.setCell ⟨g, 31, none⟩ (I 0)) g (Cr.bit (x / 2))) := Lib.hid ((hf.set 31 0).congr (fun i hi => by
        rw [Cr.bit_half]
        by_cases h1 : i = 31
        · subst h1; rw [if_pos rfl]; exact (Cr.bit_over hx).symm
        · rw [if_neg h1, if_pos (by omega)]))
      have HB : Hid (Below base W (wr.setCell ⟨g, 31, none⟩ (I 0))) := Lib.hid (hbr.setCell (p := ⟨g, 31, none⟩) hbase _)
      clear hf hbr
      by_cases h1 : s = 1
      · have HO := Lib.hid (hodd.out h1)
        have r3 : (((m : Int) + (b : Int)) % 2 == 1) = true := by rw [R2.out, h1]; rfl
        clear hodd heven h1
        go_wp2
        go_loopw [6, 7] (fun p i wr => PolyRel W base g x p i wr) (fun _ i _ => 32 - (intOf i).toNat)
        case atStart => exact ⟨0, by omega, rfl, rfl, HN.out.congr (fun i _ => by rw [if_neg (by omega)]), HB.out⟩
        case round =>
          obtain ⟨k, hk, rfl, rfl, hf, hbr⟩ := hrel
          clear HN HB c1 ff
          by_cases hlt : k < 32
          · obtain ⟨y, hy⟩ : ∃ y, y = Cr.bit (x / 2) k := ⟨_, rfl⟩
            obtain ⟨q, hq⟩ : ∃ q, q = Cr.P / 2 ^ k := ⟨_, rfl⟩
            obtain ⟨t, ht⟩ : ∃ t, t = q % 2 := ⟨_, rfl⟩
            obtain ⟨v, hv⟩ : ∃ v, v = (y + t) % 2 := ⟨_, rfl⟩
            have hyl : y ≤ 1 := by rw [hy]; exact Cr.bit_le _ _
            have hql : q < 4294967296 := by rw [hq]; exact Nat.lt_of_le_of_lt (Nat.div_le_self _ _) (by decide)
            have c1 : wr.cell? ⟨g, k, none⟩ = some (I y) := by
              have := hf.cell (k := k) hlt
              rw [if_neg (by omega), ← hy] at this
              exact this
            have ff := hf.frozen k
            have HN := Lib.hid (hf.set k v)
            have HV : Hid (v = (Cr.bit (x / 2) k + Cr.bit Cr.P k) % 2) := Lib.hid (by rw [hv, hy, ht, hq]; rfl)
            have HQ : Hid (q / 2 = Cr.P / 2 ^ (k + 1)) := Lib.hid (by rw [hq, Cr.half_pow])
            have HQI : Hid ((q : Int) / 2 = ((q / 2 : Nat) : Int)) := Lib.hid (by omega)
            have r3 : (q : Int) % 2 = (t : Int) := by omega
            have r4 : IntKind.i64.wrap (t : Int) = (t : Int) := IntWalk.i64_in _ (by omega)
            have r5 : IntKind.i64.wrap ((y : Int) + (t : Int)) = (y : Int) + (t : Int) := IntWalk.i64_in _ (by omega)
            have r6 : ((y : Int) + (t : Int)) % 2 = (v : Int) := by omega
            have htl : t ≤ 1 := by omega
            rw [← hq]
            have HB := Lib.hid hbr
            clear hf hbr hy hq ht hv
            go_wp2
            go_roundw
            case rel =>
              refine ⟨k + 1, by omega, by go_num, by rw [← HQ.out, HQI.out], HN.out.congr (fun i _ => ?_), HB.out.setCell (p := ⟨g, k, none⟩) hbase _⟩
              by_cases h1 : i = k
              · subst h1; rw [if_pos rfl, if_pos (by omega)]; exact HV.out
              · rw [if_neg h1]
                by_cases h2 : i < k
                · rw [if_pos h2, if_pos (by omega)]
                · rw [if_neg h2, if_neg (by omega)]
            case measure => simp [intOf]; omega
          · obtain rfl : k = 32 := by omega
            go_wp2
            go_end0
            exact ⟨rfl, hf.congr (fun i hi => by rw [if_pos hi, HO.out]), hbr⟩
      · have HE := Lib.hid (heven.out h1)
        have r3 : (((m : Int) + (b : Int)) % 2 == 1) = false := by rw [R2.out]; simp; omega
        clear hodd heven
        go_wp2
        go_end0
        exact ⟨rfl, HN.out.congr (fun i _ => by rw [HE.out]), HB.out⟩
end Go.Proofs.YtfceljbmdcbciaaDoor
