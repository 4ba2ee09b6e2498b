/- What the calls Plain, worth and told of package pct do, for any byte and any text, where the table of digits reads as its text lays it. -/
import Derived.Test.YtbpeohadgplaaaaDoorRows
import Derived.Test.YtbpeohadgplaaaaDoorPure
import Derived.WalkKit
import Derived.WalkSpells
import Derived.WalkLawsBesides
import Derived.Lib.Hide
import Derived.Deep.MidRow
namespace Go.Proofs.YtbpeohadgplaaaaDoor
set_option maxRecDepth 8000
open Go.RowKit

abbrev B (c : UInt8) : Value := .int .u8 (c.toNat : Int)

theorem ret_bool {a b : Bool} (h : a = b) : Ending.returned (.bool a) = .returned (.bool b) := by rw [h]

theorem ne_int {a b : Nat} (h : ((a : Int) != (b : Int)) = true) : a ≠ b := by
  intro e; subst e; simp at h
theorem eq_int {a b : Nat} (h : ((a : Int) != (b : Int)) = false) : a = b := by
  have : (a : Int) = b := by simpa using h
  omega

set_option maxHeartbeats 400000 in
theorem plain_any (c : UInt8) (w : World) :
    Calls Tryd.prog 72 #[B c] w fun e w' => e = .returned (.bool (Pct.plainB c)) ∧ w = w' := by
  go_enter Tryd.func72, Tryd.ntmps72
  go_wp2
  all_goals
    go_ret
    refine ⟨ret_bool ?_, rfl⟩
    unfold Pct.plainB
    rw [Bool.eq_iff_iff]
    simp
    omega

/-- The table of digits, as its text lays it. -/
def digCells : List Value := Pct.digs.map fun (n : Nat) => Value.int .u8 (n : Int)
def Digs (w : World) : Prop := w.rangeAt 1 0 digCells
theorem digs_at (k : Nat) (hk : k < 22) : digCells[k]? = some (.int .u8 (Pct.dgt k : Int)) := by
  have : Pct.digs.length = 22 := rfl
  simp [digCells, Pct.dgt, List.getD, List.getElem?_eq_getElem (show k < Pct.digs.length by omega)]

theorem run_dig_index (w : World) (k : Nat) (hk : k < 22) : (Instr.index 127 (.agg digCells.toArray) (.int .i64 (k : Int))).run Tryd.prog w = .ok (.int .u8 (Pct.dgt k : Int)) w := by
  have hx := digs_at k hk
  simp [Instr.index, run_underlying Tryd.underlying127, asIntOf, hk, hx, go_sem]

theorem ret_u8b {a b : Int} {p q : Bool} (h : a = b) (h' : p = q) : Ending.returned (.tuple #[.int .u8 a, .bool p]) = .returned (.tuple #[.int .u8 b, .bool q]) := by rw [h, h']

set_option maxRecDepth 8000 in
set_option maxHeartbeats 400000 in
theorem worth_any (c : UInt8) (w : World) (hd : Digs w) :
    Calls Tryd.prog 123 #[B c] w fun e w' => e = .returned (.tuple #[.int .u8 (((Pct.hexN c.toNat).getD 0 : Nat) : Int), .bool (Pct.hexN c.toNat).isSome]) ∧ w = w' := by
  go_enter Tryd.func123, Tryd.ntmps123
  go_wp2_with (refine wpList_load_mid rfl 127 (.global 1) rfl 1 0 rfl digCells (.array 22 5) hd Tryd.underlying127 rfl (by kernel_rfl) ?_)
  go_loop [7] (fun i => ∃ k : Nat, k ≤ 22 ∧ i = .int .i64 k ∧ ∀ j : Nat, j < k → Pct.dgt j ≠ c.toNat) (fun i => 22 - (intOf i).toNat)
  case atStart => exact ⟨0, Nat.zero_le _, rfl, fun j hj => absurd hj (by omega)⟩
  case round =>
    obtain ⟨k, hk, rfl, hn⟩ := hrel
    have HN := Lib.hid hn
    clear hn
    by_cases hlt : k < 22
    · have hx := run_dig_index w k hlt
      go_wp2
      · have hne' := ne_int (a := Pct.dgt k) (b := c.toNat) (by assumption)
        go_round
        case rel =>
          refine ⟨k + 1, by omega, by go_num, fun j hj => ?_⟩
          by_cases hjk : j = k
          · subst hjk; exact hne'
          · exact HN.out j (by omega)
        case measure => simp [intOf]; omega
      all_goals
        have hh := Pct.hex_hit hlt (eq_int (a := Pct.dgt k) (b := c.toNat) (by assumption))
        go_ret2
        refine ⟨ret_u8b ?_ (by rw [hh]; rfl), rfl⟩
        rw [hh]
      · rw [if_pos (by omega)]; simp; omega
      · rw [if_neg (by omega)]; simp
    · have hm := Pct.hex_miss (c := c.toNat) (fun j hj => HN.out j (by omega))
      have HM := Lib.hid hm
      clear hm
      go_wp2
      go_ret2
      exact ⟨ret_u8b (by rw [HM.out]; rfl) (by rw [HM.out]; rfl), rfl⟩

def toldRes (o : Option UInt8) : Ending := .returned (.tuple #[B (o.getD 0), .bool o.isSome])

theorem toList_two (s : ByteArray) (h : 1 < s.size) : ∃ r, s.data.toList = s[0] :: s[1] :: r := by
  obtain ⟨⟨l⟩⟩ := s
  match l, h with
  | a :: b :: r, _ => exact ⟨r, rfl⟩
theorem told2_two (s : ByteArray) (h : 1 < s.size) : Pct.told2 s.data.toList = Pct.told s[0] s[1] := by
  obtain ⟨r, hr⟩ := toList_two s h
  rw [hr]
  rfl
theorem told2_short (s : ByteArray) (h : s.size < 2) : Pct.told2 s.data.toList = none := by
  obtain ⟨⟨l⟩⟩ := s
  match l, h with
  | [], _ => rfl
  | [_], _ => rfl
theorem isNone_some {α : Type} {o : Option α} (h : o.isNone = false) : ∃ x, o = some x := by
  cases o with
  | none => cases h
  | some x => exact ⟨x, rfl⟩
theorem told_or : ∀ x : Nat, x < 16 → ∀ y : Nat, y < 16 → bits BinOp.or IntKind.u8 ((x : Int) * 16 % 256) (y : Int) = (((UInt8.ofNat (16 * x + y)).toNat : Nat) : Int) := by decide +kernel

theorem told_end (s : ByteArray) (h : 1 < s.size) (h1 : (Pct.hexN s[0].toNat).isNone = false) (h2 : (Pct.hexN s[1].toNat).isNone = false) :
    Ending.returned (.tuple #[.int .u8 (bits BinOp.or IntKind.u8 (((Pct.hexN s[0].toNat).getD 0 : Nat) * 16 % 256) ((Pct.hexN s[1].toNat).getD 0 : Nat)), .bool true]) = toldRes (Pct.told2 s.data.toList) := by
  obtain ⟨x, hx⟩ := isNone_some h1
  obtain ⟨y, hy⟩ := isNone_some h2
  rw [told2_two s h]
  unfold Pct.told toldRes B
  rw [hx, hy]
  simp only [Option.getD_some, Option.isSome_some]
  rw [told_or x (Pct.hexN_lt hx) y (Pct.hexN_lt hy)]
theorem told_no1 (s : ByteArray) (h : 1 < s.size) (h1 : (Pct.hexN s[0].toNat).isNone = true) : Pct.told2 s.data.toList = none := by
  rw [told2_two s h]
  unfold Pct.told
  rw [Option.isNone_iff_eq_none.1 h1]
theorem told_no2 (s : ByteArray) (h : 1 < s.size) (h1 : (Pct.hexN s[0].toNat).isNone = false) (h2 : (Pct.hexN s[1].toNat).isNone = true) : Pct.told2 s.data.toList = none := by
  obtain ⟨x, hx⟩ := isNone_some h1
  rw [told2_two s h]
  unfold Pct.told
  rw [hx, Option.isNone_iff_eq_none.1 h2]
theorem toldRes_none {o : Option UInt8} (h : o = none) : Ending.returned (.tuple #[.int .u8 0, .bool false]) = toldRes o := by
  rw [h]
  rfl

set_option maxHeartbeats 400000 in
theorem told_any (s : ByteArray) (w : World) (hd : Digs w) :
    Calls Tryd.prog 102 #[.string s] w fun e w' => e = toldRes (Pct.told2 s.data.toList) ∧ w = w' := by
  by_cases hs : s.size < 2
  · go_enter Tryd.func102, Tryd.ntmps102
    go_wp2
    go_ret2
    exact ⟨toldRes_none (told2_short s hs), rfl⟩
  · go_enter Tryd.func102, Tryd.ntmps102
    go_wp2_with (go_at_call 123; refine (worth_any _ _ hd).mono ?_; rintro e w' ⟨rfl, rfl⟩)
    · go_ret2
      exact ⟨toldRes_none (told_no1 s (by omega) ‹_›), rfl⟩
    · go_ret2
      exact ⟨toldRes_none (told_no2 s (by omega) ‹_› ‹_›), rfl⟩
    · go_ret2
      exact ⟨told_end s (by omega) ‹_› ‹_›, rfl⟩
end Go.Proofs.YtbpeohadgplaaaaDoor
