/- What the calls More and Of of package crc do, for any sum and any bytes, where the table reads as its text lays it; texts of at most 2^63 - 1 bytes. -/
import Derived.Test.YtocfppopnoegmaaDoorRows
import Derived.Test.YtocfppopnoegmaaDoorCrPure
import Derived.WalkKit
import Derived.WalkSpells
import Derived.WalkLawsBesides
import Derived.Lib.Hide
import Derived.Deep.MidRow
import Derived.Laws.BitsAllLaws
import Derived.Laws.IdiomStrings
import Derived.RegionTactic
import Derived.Deep.LoopGhost
import Derived.Deep.QuietTactic
import Derived.BigQuiet
import Derived.IntWalk
namespace Go.Proofs.YtocfppopnoegmaaDoor
set_option maxRecDepth 8000
open Go.RowKit

abbrev B (c : UInt8) : Value := .int .u8 (c.toNat : Int)
abbrev U (n : Nat) : Value := .int .u32 (n : Int)
theorem ret_bool {a b : Bool} (h : a = b) : Ending.returned (.bool a) = .returned (.bool b) := by rw [h]
theorem ret_u32 {a b : Nat} (h : a = b) : Ending.returned (.int .u32 (a : Int)) = .returned (.int .u32 (b : Int)) := by rw [h]
theorem ret_u32' {a : Int} {b : Nat} (h : a = b) : Ending.returned (.int .u32 a) = .returned (.int .u32 (b : Int)) := by rw [h]

/-- The table, as its text lays it. -/
def tabCells : List Value := Cr.H.map fun (n : Nat) => Value.int .u32 (n : Int)
def Hs (w : World) : Prop := w.rangeAt 0 0 tabCells
theorem Hs.cell {w : World} (h : Hs w) {k : Nat} (hk : k < 16) : w.cell? ⟨0, k, none⟩ = some (.int .u32 (Cr.hv k : Int)) := by
  have hl : Cr.H.length = 16 := rfl
  have := h k (.int .u32 (Cr.hv k : Int)) (by simp [tabCells, Cr.hv, List.getD, List.getElem?_eq_getElem (show k < Cr.H.length by omega)])
  rwa [Nat.zero_add] at this
/-- The slice at A holds the bytes l. -/
def BC (w : World) (A : Option Addr) (l : List UInt8) : Prop :=
  0 < l.length → ∃ b off, A = some ⟨b, off, none⟩ ∧ ∀ k (h : k < l.length), w.cell? ⟨b, off + k, none⟩ = some (B l[k])
theorem wrap_u8_u32 (c : UInt8) : IntKind.u32.wrap (c.toNat : Int) = (c.toNat : Int) := by
  have := Cr.u8_lt c
  rw [IntKind.wrap_u32']; omega

set_option maxHeartbeats 400000 in
theorem more_any (s : Nat) (A : Option Addr) (l : List UInt8) (cap : Nat) (w : World) (hs : s < 4294967296) (hH : Hs w) (hl : l.length ≤ 9223372036854775807) (hb : BC w A l) :
    Calls Tryd.prog 18 #[U s, .slice A l.length cap] w fun e w' => e = .returned (U (Cr.more s l)) ∧ w = w' := by
  obtain ⟨x0, hx0⟩ : ∃ x, x = Cr.mx ^^^ s := ⟨_, rfl⟩
  have h0 : bits .xor .u32 4294967295 (s : Int) = (x0 : Int) := by rw [hx0]; exact u32_xor_nat 4294967295 s (by decide) hs
  have hsg : IntKind.u32.signed = false := rfl
  have hmx : IntKind.u32.max = 4294967295 := by decide
  have hx0l : x0 < 4294967296 := by rw [hx0]; exact Cr.mx_lt hs
  have H0 := Lib.hid hx0
  clear hx0
  go_enter Tryd.func18, Tryd.ntmps18
  go_wp2
  clear h0
  go_loop [5, 12] (fun x i => ∃ k : Nat, k ≤ l.length ∧ i = .int .i64 k ∧ x = U (Cr.go x0 (l.take k))) (fun _ i => l.length - (intOf i).toNat)
  case atStart => exact ⟨0, Nat.zero_le _, rfl, rfl⟩
  case round =>
    obtain ⟨k, hk, rfl, rfl⟩ := hrel
    obtain ⟨x, hx⟩ : ∃ x, x = Cr.go x0 (l.take k) := ⟨_, rfl⟩
    have hxl : x < 4294967296 := by rw [hx]; exact Cr.go_lt _ hx0l
    rw [← hx]
    have HX := Lib.hid hx
    clear hx
    by_cases hlt : k < l.length
    · obtain ⟨b, off, rfl, hcell⟩ := hb (by omega)
      have hc := hcell k hlt
      clear hcell
      have hcw := wrap_u8_u32 l[k]
      have hcl := Cr.u8_lt l[k]
      obtain ⟨c, hc0⟩ : ∃ c, c = l[k].toNat := ⟨_, rfl⟩
      rw [B, ← hc0] at hc
      rw [← hc0] at hcw hcl
      have HC := Lib.hid hc0
      clear hc0
      obtain ⟨y, hy⟩ : ∃ y, y = x ^^^ c := ⟨_, rfl⟩
      have h1 : bits .xor .u32 (x : Int) (c : Int) = (y : Int) := by rw [hy]; exact u32_xor_nat x c hxl (by omega)
      have hyl : y < 4294967296 := by rw [hy]; exact Nat.xor_lt_two_pow (n := 32) hxl (by omega)
      have HY := Lib.hid hy
      clear hy
      obtain ⟨j, hj⟩ : ∃ j, j = y % 16 := ⟨_, rfl⟩
      have h2 : bits .and .u32 (y : Int) 15 = (j : Int) := by rw [hj, ← nat_mask4]; exact u32_and_nat y 15 hyl (by decide)
      have hjl : j < 16 := by omega
      have hcj := hH.cell hjl
      obtain ⟨z, hz⟩ : ∃ z, z = y / 16 ^^^ Cr.hv j := ⟨_, rfl⟩
      have h3 : bits .xor .u32 ((y : Int) / 16) (Cr.hv j : Int) = (z : Int) := by
        rw [hz]; exact u32_xor_nat (y / 16) (Cr.hv j) (by omega) (Cr.hv_lt j hjl)
      have hzl : z < 4294967296 := by rw [hz]; exact Nat.xor_lt_two_pow (n := 32) (by omega) (Cr.hv_lt j hjl)
      have HZ : Hid (z = Cr.sts 4 y) := Lib.hid (by rw [hz, hj, Cr.nib])
      clear hz hj
      obtain ⟨i, hi⟩ : ∃ i, i = z % 16 := ⟨_, rfl⟩
      have h4 : bits .and .u32 (z : Int) 15 = (i : Int) := by rw [hi, ← nat_mask4]; exact u32_and_nat z 15 hzl (by decide)
      have hil : i < 16 := by omega
      have hci := hH.cell hil
      obtain ⟨v, hv⟩ : ∃ v, v = z / 16 ^^^ Cr.hv i := ⟨_, rfl⟩
      have h5 : bits .xor .u32 ((z : Int) / 16) (Cr.hv i : Int) = (v : Int) := by
        rw [hv]; exact u32_xor_nat (z / 16) (Cr.hv i) (by omega) (Cr.hv_lt i hil)
      have HV : Hid (v = Cr.sts 4 z) := Lib.hid (by rw [hv, hi, Cr.nib])
      clear hv hi
      go_wp2
      go_round
      case rel =>
        refine ⟨k + 1, by omega, by go_num, ?_⟩
        rw [List.take_succ_eq_append_getElem hlt, Cr.go_snoc, ← HX.out, ← HC.out, ← HY.out, ← HZ.out, ← HV.out]
      case measure => simp [intOf]; omega
    · obtain ⟨y, hy⟩ : ∃ y, y = Cr.mx ^^^ x := ⟨_, rfl⟩
      have h1 : bits .xor .u32 4294967295 (x : Int) = (y : Int) := by rw [hy]; exact u32_xor_nat 4294967295 x (by decide) hxl
      have HY := Lib.hid hy
      clear hy
      go_wp2
      go_ret
      refine ⟨ret_u32 ?_, rfl⟩
      rw [HY.out, HX.out, List.take_of_length_le (by omega), H0.out]
      rfl

set_option maxHeartbeats 400000 in
theorem of_any (A : Option Addr) (l : List UInt8) (cap : Nat) (w : World) (hH : Hs w) (hl : l.length ≤ 9223372036854775807) (hb : BC w A l) :
    Calls Tryd.prog 19 #[.slice A l.length cap] w fun e w' => e = .returned (U (Cr.sum l)) ∧ w = w' := by
  go_enter Tryd.func19, Tryd.ntmps19
  go_wp2_with (go_at_call 18; refine (more_any 0 _ _ _ _ (by decide) hH hl hb).mono ?_; rintro e w' ⟨rfl, rfl⟩)
  go_ret
  exact ⟨rfl, rfl⟩
end Go.Proofs.YtocfppopnoegmaaDoor
