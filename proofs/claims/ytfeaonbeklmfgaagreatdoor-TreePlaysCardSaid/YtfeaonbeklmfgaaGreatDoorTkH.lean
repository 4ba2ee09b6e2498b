/- What the document's Prefix, Name and Parse of package ticket answer, for any kind and draw, and any text of at most 2^30 bytes. -/
import Derived.Test.YtfeaonbeklmfgaaGreatDoorTkN
namespace Go.Proofs.YtfeaonbeklmfgaaGreatDoor
set_option maxRecDepth 8000
open Go.RowKit

set_option maxHeartbeats 800000 in
theorem refPrefix_any (kind : Int) (w : World) :
    Calls Tryz.prog 73 #[.int .i64 kind] w fun e w' => e = .returned (.string (S (preI kind))) ∧ w' = w := by
  rcases preI_cases kind with ⟨hp, hk⟩ | ⟨k, rfl, h1, h6, hp⟩
  · rw [hp]
    have c1 : (kind == 1) = false := by simp; omega
    have c2 : (kind == 2) = false := by simp; omega
    have c3 : (kind == 3) = false := by simp; omega
    have c4 : (kind == 4) = false := by simp; omega
    have c5 : (kind == 5) = false := by simp; omega
    have c6 : (kind == 6) = false := by simp; omega
    clear hp hk
    go_enter Tryz.func73, Tryz.ntmps73
    go_wp2
    go_ret
    exact ⟨rfl, rfl⟩
  · rw [hp]
    clear hp
    have : k = 1 ∨ k = 2 ∨ k = 3 ∨ k = 4 ∨ k = 5 ∨ k = 6 := by omega
    clear h1 h6
    rcases this with rfl | rfl | rfl | rfl | rfl | rfl
    all_goals
      go_enter Tryz.func73, Tryz.ntmps73
      go_wp2
      go_ret
      exact ⟨rfl, rfl⟩

theorem dig_cons : ∀ k n : Nat, Tk.dig (k + 1) n = Tk.hx (n / 16 ^ k % 16) :: Tk.dig k n
  | 0, n => by simp [Tk.dig]
  | k + 1, n => by
    rw [Tk.dig, dig_cons k (n / 16), Tk.dig, List.cons_append, Nat.div_div_eq_div_mul, Nat.pow_succ, Nat.mul_comm 16]
def hexS : ByteArray := ⟨#[48, 49, 50, 51, 52, 53, 54, 55, 56, 57, 97, 98, 99, 100, 101, 102]⟩
theorem hexS_cut (d : Nat) (hd : d < 16) : hexS.extract d (d + 1) = S [Tk.hx d] := by
  have : d = 0 ∨ d = 1 ∨ d = 2 ∨ d = 3 ∨ d = 4 ∨ d = 5 ∨ d = 6 ∨ d = 7 ∨ d = 8 ∨ d = 9 ∨ d = 10 ∨ d = 11 ∨ d = 12 ∨ d = 13 ∨ d = 14 ∨ d = 15 := by omega
  rcases this with rfl | rfl | rfl | rfl | rfl | rfl | rfl | rfl | rfl | rfl | rfl | rfl | rfl | rfl | rfl | rfl <;> rfl
set_option maxHeartbeats 800000 in
theorem refName_any (kind : Int) (n : Nat) (hn : n < 18446744073709551616) (w : World) :
    Calls Tryz.prog 56 #[.int .i64 kind, .int .u64 n] w fun e w' => e = .returned (nameV kind n) ∧ w' = w := by
  have hP := fun w' => refPrefix_any kind w'
  have hlen := preI_len kind
  unfold nameV
  obtain ⟨p, hp⟩ : ∃ p, p = preI kind := ⟨_, rfl⟩
  rw [← hp] at hP hlen ⊢
  clear hp
  have hS := S_empty p
  cases he : p.isEmpty with
  | true =>
    rw [he] at hS
    go_enter Tryz.func56, Tryz.ntmps56
    go_wp2_with (go_at_call 73; refine (hP _).mono ?_; rintro e w' ⟨rfl, rfl⟩)
    go_ret2
    exact ⟨rfl, rfl⟩
  | false =>
    rw [he] at hS
    have hh : hexS.size = 16 := rfl
    go_enter Tryz.func56, Tryz.ntmps56
    rw [show (⟨#[48, 49, 50, 51, 52, 53, 54, 55, 56, 57, 97, 98, 99, 100, 101, 102]⟩ : ByteArray) = hexS from rfl]
    go_upto_region 7 with (go_at_call 73; refine (hP _).mono ?_; rintro e w' ⟨rfl, rfl⟩)
    go_loop [1, 8, 9] (fun vm vs vi => ∃ (i m : Nat) (s : List UInt8), vm = .int .u64 m ∧ vs = .string (S s) ∧ vi = .int .i64 i ∧ i ≤ 16 ∧ Hid (m = n / 16 ^ i ∧ s = Tk.dig i n)) (fun _ _ vi => 16 - (intOf vi).toNat)
    case atStart => exact ⟨0, n, [], rfl, rfl, rfl, by omega, Lib.hid ⟨by simp, rfl⟩⟩
    case round =>
      obtain ⟨i, m, s, rfl, rfl, rfl, hi, hh2⟩ := hrel
      obtain ⟨hm, hs⟩ := hh2.out
      have hsl : s.length = i := by rw [hs, Tk.dig_len]
      have hm64 : m < 18446744073709551616 := by rw [hm]; exact Nat.lt_of_le_of_lt (Nat.div_le_self _ _) hn
      have HS := Lib.hid hs
      have HM := Lib.hid hm
      clear hh2 hs hm
      by_cases hlt : i < 16
      · obtain ⟨d, hd⟩ : ∃ d, d = m % 16 := ⟨_, rfl⟩
        obtain ⟨m', hm'⟩ : ∃ m', m' = m / 16 := ⟨_, rfl⟩
        have hd16 : d < 16 := by omega
        have r1 : (m : Int) % 16 = (d : Int) := by omega
        have r2 : (m : Int).tmod 16 = (d : Int) := by rw [Int.tmod_eq_emod_of_nonneg (by omega)]; exact r1
        have r3 : (m : Int) / 16 = (m' : Int) := by omega
        have r4 : (m : Int).tdiv 16 = (m' : Int) := by rw [Int.tdiv_eq_ediv_of_nonneg (by omega)]; exact r3
        have hx := hexS_cut d hd16
        have ha : ∀ w, (Op.stringOp .add (S [Tk.hx d]) (S s)).run Tryz.prog w = .ok (.string (S ([Tk.hx d] ++ s))) w := fun w => run_add_S w [Tk.hx d] s (by simp; omega)
        obtain ⟨t, ht⟩ : ∃ t, t = [Tk.hx d] ++ s := ⟨_, rfl⟩
        rw [← ht] at ha
        have hnew : Hid (m' = n / 16 ^ (i + 1) ∧ t = Tk.dig (i + 1) n) := Lib.hid ⟨by rw [hm', HM.out, Nat.div_div_eq_div_mul, Nat.pow_succ], by rw [ht, HS.out, dig_cons, hd, HM.out]; rfl⟩
        clear ht hd hm' hsl
        go_wp2
        go_round
        case rel => exact ⟨i + 1, m', t, rfl, rfl, by go_num, by omega, hnew⟩
        case measure => simp [intOf]; omega
      · have hfs : s = Tk.num n := by rw [HS.out, show i = 16 by omega]; rfl
        have a1 : ∀ w, (Op.stringOp .add (S p) ⟨#[45]⟩).run Tryz.prog w = .ok (.string (S (p ++ [45]))) w := fun w => run_add_S w p [45] (by simp; omega)
        have a2 : ∀ w, (Op.stringOp .add (S (p ++ [45])) (S s)).run Tryz.prog w = .ok (.string (S (p ++ [45] ++ s))) w := fun w => run_add_S w _ _ (by simp; omega)
        have hfin : Hid (p ++ [45] ++ s = p ++ 45 :: Tk.num n) := Lib.hid (by rw [hfs]; simp)
        generalize p ++ [45] ++ s = t at a2 hfin
        generalize p ++ [45] = y at a1 a2
        clear hfs
        go_wp2
        go_ret2
        rw [hfin.out]
        exact ⟨rfl, rfl⟩

theorem idx_S (l : List UInt8) (i : Nat) (h : i < l.length) (w : World) : (Instr.index 9 (.string (S l)) (.int .i64 (i : Int))).run Tryz.prog w = .ok (B l[i]) w := by
  rw [run_index_string w _ _ _ _ Tryz.underlying9, dif_pos ⟨by omega, by show (i : Int) < (l.length : Int); omega⟩]
  rfl
end Go.Proofs.YtfeaonbeklmfgaaGreatDoor
