/- What the document's own Digits answers, for any number from 0 on. -/
import Derived.Test.YtbpeohadgplaaaaDoorUrlB
namespace Go.Proofs.YtbpeohadgplaaaaDoor
set_option maxRecDepth 8000
open Go.RowKit

theorem digitsF_fuel : ∀ (f g n : Nat), n ≤ f → n ≤ g → Url.digitsF f n = Url.digitsF g n
  | 0, 0, n, _, _ => rfl
  | 0, g + 1, n, h, _ => by
    obtain rfl : n = 0 := by omega
    simp [Url.digitsF]
  | f + 1, 0, n, _, h => by
    obtain rfl : n = 0 := by omega
    simp [Url.digitsF]
  | f + 1, g + 1, n, h1, h2 => by
    by_cases h9 : n ≤ 9
    · rw [Url.digitsF, Url.digitsF, if_pos h9, if_pos h9]
    · rw [Url.digitsF, Url.digitsF, if_neg h9, if_neg h9, digitsF_fuel f g (n / 10) (by omega) (by omega)]
theorem digits_few {n : Nat} (h : n ≤ 9) : Url.digits n = [UInt8.ofNat (48 + n)] := by
  unfold Url.digits
  cases n with
  | zero => rfl
  | succ m => rw [Url.digitsF, if_pos h]
theorem digits_more {n : Nat} (h : ¬ n ≤ 9) : Url.digits n = Url.digits (n / 10) ++ [UInt8.ofNat (48 + n % 10)] := by
  obtain ⟨m, rfl⟩ : ∃ m, n = m + 1 := ⟨n - 1, by omega⟩
  unfold Url.digits
  rw [Url.digitsF, if_neg h, digitsF_fuel m ((m + 1) / 10) ((m + 1) / 10) (by omega) (Nat.le_refl _)]

theorem run_add_S' (w : World) (a b : List UInt8) (h : a.length + b.length ≤ 9223372036854775807) : (Op.stringOp .add (S a) (S b)).run Tryd.prog w = .ok (.string (S (a ++ b))) w := by
  have ha : (S a).size = a.length := rfl
  have hb : (S b).size = b.length := rfl
  rw [run_string_add_sum w _ _ (by omega), S_append]

set_option maxHeartbeats 400000 in
theorem refDigits_any (n0 : Nat) (w : World) (hn : n0 ≤ 9223372036854775807) :
    Calls Tryd.prog 107 #[.int .i64 n0] w (Told w (.returned (.string (S (Url.digits n0))))) := by
  go_enter Tryd.func107, Tryd.ntmps107
  go_wp2
  go_loopw [0, 3] (fun i v wr => ∃ (n : Nat) (acc : List UInt8), i = .int .i64 n ∧ v = .string (S acc) ∧ 9 * acc.length + n ≤ n0 ∧ Url.digits n0 = Url.digits n ++ acc ∧ Below w.heap.size w wr) (fun i _ _ => (intOf i).toNat)
  case atStart => exact ⟨n0, [], rfl, rfl, by simp, by simp, Below.refl _ _⟩
  case round =>
    obtain ⟨n, acc, rfl, rfl, hal, hd, hb⟩ := hrel
    have hbs := hb.size
    have HD := Lib.hid hd
    clear hd
    by_cases hlt : n ≤ 9
    · have HN := Lib.hid (digits_few hlt)
      have a1 := fun w' : World => run_add_S' w' [UInt8.ofNat (48 + n)] acc (by simp; omega)
      have a2 := run_one wr (UInt8.ofNat (48 + n))
      unfold B at a2
      rw [show (((UInt8.ofNat (48 + n)).toNat : Nat) : Int) = 48 + (n : Int) by rw [UInt8.toNat_ofNat']; omega] at a2
      have w1 : IntKind.u8.wrap (48 + (n : Int)) = 48 + (n : Int) := IntWalk.u8_in _ (by omega)
      obtain ⟨c, hc⟩ : ∃ c, c = UInt8.ofNat (48 + n) := ⟨_, rfl⟩
      rw [← hc] at a1 a2 HN
      clear hc
      go_wp2
      go_ret
      refine ⟨ret_string ?_, hb.alloc hbs _⟩
      rw [HD.out, HN.out]
      rfl
    · have HN := Lib.hid (digits_more hlt)
      have a1 := fun w' : World => run_add_S' w' [UInt8.ofNat (48 + n % 10)] acc (by simp; omega)
      have a2 := run_one wr (UInt8.ofNat (48 + n % 10))
      have e1 : (n : Int).tmod 10 = ((n % 10 : Nat) : Int) := by rw [Int.tmod_eq_emod_of_nonneg (by omega)]; omega
      have e1' : (n : Int) % 10 = ((n % 10 : Nat) : Int) := by omega
      have e2 : (n : Int).tdiv 10 = ((n / 10 : Nat) : Int) := by rw [Int.tdiv_eq_ediv_of_nonneg (by omega)]; omega
      have e2' : (n : Int) / 10 = ((n / 10 : Nat) : Int) := by omega
      unfold B at a2
      rw [show (((UInt8.ofNat (48 + n % 10)).toNat : Nat) : Int) = 48 + ((n % 10 : Nat) : Int) by rw [UInt8.toNat_ofNat']; omega] at a2
      obtain ⟨x, hx⟩ : ∃ x, x = n % 10 := ⟨_, rfl⟩
      rw [← hx] at a1 a2 e1 e1' HN
      have hx9 : x ≤ 9 := by omega
      clear hx
      obtain ⟨y, hy⟩ : ∃ y, y = n / 10 := ⟨_, rfl⟩
      rw [← hy] at e2 e2' HN
      have hyn : 9 * 1 + y ≤ n := by omega
      clear hy
      have w1 : IntKind.u8.wrap (48 + (x : Int)) = 48 + (x : Int) := IntWalk.u8_in _ (by omega)
      obtain ⟨c, hc⟩ : ∃ c, c = UInt8.ofNat (48 + x) := ⟨_, rfl⟩
      rw [← hc] at a1 a2 HN
      clear hc
      go_wp2
      go_roundw
      case rel => exact ⟨y, [c] ++ acc, by go_num, rfl, by simp; omega, by rw [HD.out, HN.out]; simp, hb.alloc hbs _⟩
      case measure => simp [intOf]; omega
end Go.Proofs.YtbpeohadgplaaaaDoor
