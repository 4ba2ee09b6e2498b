/- Whether a text is shown, and is a name: isShown and isName of package xml, the document's Shown and Name; for texts of at most 2^30 bytes. -/
import Derived.Test.YtpleaopefngafaaDoorXmW
import Derived.Shelf.Strings.SlTrimAscii
namespace Go.Proofs.YtpleaopefngafaaDoor
set_option maxRecDepth 8000
open Go.RowKit

theorem shown_all : ∀ n : Nat, n < 256 → (Xm.shownByte (UInt8.ofNat n) == !((decide (((UInt8.ofNat n).toNat : Int) < 32) && (((UInt8.ofNat n).toNat : Int) != 9) && (((UInt8.ofNat n).toNat : Int) != 10)) || (((UInt8.ofNat n).toNat : Int) == 127))) = true := by decide +kernel
theorem shown_bits (c : UInt8) : Xm.shownByte c = !((decide ((c.toNat : Int) < 32) && ((c.toNat : Int) != 9) && ((c.toNat : Int) != 10)) || ((c.toNat : Int) == 127)) := by
  have := Xm.byte_all (P := fun c => Xm.shownByte c == !((decide ((c.toNat : Int) < 32) && ((c.toNat : Int) != 9) && ((c.toNat : Int) != 10)) || ((c.toNat : Int) == 127))) shown_all c
  simpa using this
def AllTo (P : UInt8 → Bool) (s : ByteArray) (i : Value) : Prop := ∃ k : Nat, k ≤ s.size ∧ i = .int .i64 (k : Int) ∧ ∀ j (hj : j < s.size), j < k → P s[j] = true
theorem AllTo.start (P : UInt8 → Bool) (s : ByteArray) : AllTo P s (.int .i64 0) := ⟨0, Nat.zero_le _, rfl, fun j _ hj => absurd hj (by omega)⟩

set_option maxHeartbeats 2000000 in
theorem isShown_any (l : List UInt8) (w : World) (hs : l.length ≤ 9223372036854775807) :
    Calls Tryd.prog 31 #[.string (S l)] w fun e w' => e = .returned (.bool (Xm.shownB l)) ∧ w = w' := by
  have HSl := Lib.hid (show (S l).data.toList = l from S_toList l)
  obtain ⟨s, hs'⟩ : ∃ s, s = S l := ⟨_, rfl⟩
  have hz : s.size ≤ 9223372036854775807 := by rw [hs']; exact hs
  rw [← hs'] at HSl ⊢
  clear hs' hs
  go_enter Tryd.func31, Tryd.ntmps31
  go_wp2
  go_loop [7] (fun i => AllTo Xm.shownByte s i) (fun i => s.size - (intOf i).toNat)
  case atStart => exact AllTo.start _ _
  case round =>
    obtain ⟨k, hk, rfl, hall⟩ := hrel
    have HALL := Lib.hid hall
    clear hall
    by_cases hlt : k < s.size
    · have hbits := shown_bits s[k]
      obtain ⟨p1, d1⟩ : ∃ p, decide ((s[k].toNat : Int) < 32) = p := ⟨_, rfl⟩
      obtain ⟨p2, d2⟩ : ∃ p, ((s[k].toNat : Int) != 9) = p := ⟨_, rfl⟩
      obtain ⟨p3, d3⟩ : ∃ p, ((s[k].toNat : Int) != 10) = p := ⟨_, rfl⟩
      obtain ⟨p4, d4⟩ : ∃ p, ((s[k].toNat : Int) == 127) = p := ⟨_, rfl⟩
      rw [d1, d2, d3, d4] at hbits
      have HBI := Lib.hid hbits
      clear hbits
      cases p1 <;> cases p2 <;> cases p3 <;> cases p4 <;> first
        | (go_wp2
           go_round
           case rel =>
             refine ⟨k + 1, by omega, by go_num, fun j hj hjk => ?_⟩
             by_cases e : j = k
             · subst e; exact HBI.out
             · exact HALL.out j hj (by omega)
           case measure => simp [intOf]; omega)
        | (go_wp2
           go_ret
           refine ⟨ret_bool ?_, rfl⟩
           have h : Xm.shownB s.data.toList = false := all_bad hlt HBI.out
           rw [HSl.out] at h
           exact h.symm)
    · have HT : Hid (Xm.shownB l = true) := Lib.hid (by
        have h : Xm.shownB s.data.toList = true := all_of_get fun j hj => HALL.out j hj (by omega)
        rwa [HSl.out] at h)
      go_wp2
      go_ret
      exact ⟨ret_bool HT.out.symm, rfl⟩

set_option maxHeartbeats 2000000 in
theorem refShown_any (l : List UInt8) (w : World) (hs : l.length ≤ 9223372036854775807) :
    Calls Tryd.prog 41 #[.string (S l)] w fun e w' => e = .returned (.bool (Xm.shownB l)) ∧ w = w' := by
  have HSl := Lib.hid (show (S l).data.toList = l from S_toList l)
  obtain ⟨s, hs'⟩ : ∃ s, s = S l := ⟨_, rfl⟩
  have hz : s.size ≤ 9223372036854775807 := by rw [hs']; exact hs
  rw [← hs'] at HSl ⊢
  clear hs' hs
  go_enter Tryd.func41, Tryd.ntmps41
  go_wp2
  go_loop [3] (fun i => AllTo Xm.shownByte s i) (fun i => s.size - (intOf i).toNat)
  case atStart => exact AllTo.start _ _
  case round =>
    obtain ⟨k, hk, rfl, hall⟩ := hrel
    have HALL := Lib.hid hall
    clear hall
    by_cases hlt : k < s.size
    · have hbits := shown_bits s[k]
      obtain ⟨p1, d1⟩ : ∃ p, decide ((s[k].toNat : Int) < 32) = p := ⟨_, rfl⟩
      obtain ⟨p2, d2⟩ : ∃ p, ((s[k].toNat : Int) != 9) = p := ⟨_, rfl⟩
      obtain ⟨p3, d3⟩ : ∃ p, ((s[k].toNat : Int) != 10) = p := ⟨_, rfl⟩
      obtain ⟨p4, d4⟩ : ∃ p, ((s[k].toNat : Int) == 127) = p := ⟨_, rfl⟩
      rw [d1, d2, d3, d4] at hbits
      have HBI := Lib.hid hbits
      clear hbits
      cases p1 <;> cases p2 <;> cases p3 <;> cases p4 <;> first
        | (go_wp2
           go_round
           case rel =>
             refine ⟨k + 1, by omega, by go_num, fun j hj hjk => ?_⟩
             by_cases e : j = k
             · subst e; exact HBI.out
             · exact HALL.out j hj (by omega)
           case measure => simp [intOf]; omega)
        | (go_wp2
           go_ret
           refine ⟨ret_bool ?_, rfl⟩
           have h : Xm.shownB s.data.toList = false := all_bad hlt HBI.out
           rw [HSl.out] at h
           exact h.symm)
    · have HT : Hid (Xm.shownB l = true) := Lib.hid (by
        have h : Xm.shownB s.data.toList = true := all_of_get fun j hj => HALL.out j hj (by omega)
        rwa [HSl.out] at h)
      go_wp2
      go_ret
      exact ⟨ret_bool HT.out.symm, rfl⟩
end Go.Proofs.YtpleaopefngafaaDoor
