/- What the document's own small, find and Digits of URLs answer, for any text of at most 2^30 bytes and any number from 0 on. -/
import Derived.Test.YtbpeohadgplaaaaDoorRefC
import Derived.Test.YtbpeohadgplaaaaDoorUrlParse
namespace Go.Proofs.YtbpeohadgplaaaaDoor
set_option maxRecDepth 8000
open Go.RowKit

theorem lower_up {c : UInt8} (h1 : 65 ≤ c.toNat) (h2 : c.toNat ≤ 90) : ((Url.lower c).toNat : Int) = (c.toNat : Int) + 32 := by
  unfold Url.lower
  rw [if_pos ⟨h1, h2⟩, UInt8.toNat_ofNat']
  omega
theorem lower_id {c : UInt8} (h : c.toNat < 65 ∨ 90 < c.toNat) : Url.lower c = c := by
  unfold Url.lower
  rw [if_neg (by omega)]
theorem small_snoc (s : ByteArray) (k : Nat) (h : k < s.size) : Url.small (s.data.toList.take (k + 1)) = Url.small (s.data.toList.take k) ++ [Url.lower s[k]] := by
  rw [take_snoc s k h]
  simp [Url.small]
theorem ret_string {a b : List UInt8} (h : a = b) : Ending.returned (.string (S a)) = .returned (.string (S b)) := by rw [h]

set_option maxHeartbeats 400000 in
theorem refSmall_any (s : ByteArray) (w : World) (hs : s.size ≤ 1073741824) :
    Calls Tryd.prog 46 #[.string s] w (Told w (.returned (.string (S (Url.small s.data.toList))))) := by
  go_enter Tryd.func46, Tryd.ntmps46
  go_wp2
  go_loopw [3, 4] (fun v i wr => ∃ (k : Nat) (acc : List UInt8), k ≤ s.size ∧ i = .int .i64 k ∧ v = .string (S acc) ∧ acc.length = k ∧ acc = Url.small (s.data.toList.take k) ∧ Below w.heap.size w wr) (fun _ i _ => s.size - (intOf i).toNat)
  case atStart => exact ⟨0, [], Nat.zero_le _, rfl, rfl, rfl, by simp [Url.small], Below.refl _ _⟩
  case round =>
    obtain ⟨k, acc, hk, rfl, rfl, hal, hacc, hb⟩ := hrel
    have hbs := hb.size
    have HACC := Lib.hid hacc
    clear hacc
    by_cases hlt : k < s.size
    · have HN := Lib.hid (show acc ++ [Url.lower s[k]] = Url.small (s.data.toList.take (k + 1)) by rw [small_snoc s k hlt, HACC.out])
      have a1 := fun w' : World => run_add_S w' acc [Url.lower s[k]] (by simp; omega)
      have a2 := run_one wr (Url.lower s[k])
      by_cases hu : 65 ≤ s[k].toNat ∧ s[k].toNat ≤ 90
      · have e := lower_up hu.1 hu.2
        have h1 := hu.1
        have h2 := hu.2
        clear hu
        unfold B at a2
        rw [e] at a2
        clear e
        go_wp2
        go_roundw
        case rel => exact ⟨k + 1, _, by omega, by go_num, rfl, by simp; omega, HN.out, hb.alloc hbs _⟩
        case measure => simp [intOf]; omega
      · have e := lower_id (c := s[k]) (by omega)
        unfold B at a2
        rw [e] at a2 a1 HN
        clear e
        by_cases h1 : 65 ≤ s[k].toNat
        · have h2 : 90 < s[k].toNat := by omega
          clear hu
          go_wp2
          go_roundw
          case rel => exact ⟨k + 1, _, by omega, by go_num, rfl, by simp; omega, HN.out, hb.alloc hbs _⟩
          case measure => simp [intOf]; omega
        · clear hu
          go_wp2
          go_roundw
          case rel => exact ⟨k + 1, _, by omega, by go_num, rfl, by simp; omega, HN.out, hb.alloc hbs _⟩
          case measure => simp [intOf]; omega
    · go_wp2
      go_ret
      refine ⟨ret_string ?_, hb⟩
      have := HACC.out
      rwa [List.take_of_length_le (by simp; omega)] at this
end Go.Proofs.YtbpeohadgplaaaaDoor
