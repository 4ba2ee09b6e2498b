/- What the document's number answers, for any text of at most 2^30 bytes. -/
import Derived.Test.YtpdilhnbbokipaaDoorCu
import Derived.Test.YtpdilhnbbokipaaDoorCkRef
namespace Go.Proofs.YtpdilhnbbokipaaDoor
set_option maxRecDepth 8000
open Go.RowKit

theorem digit_some {b : UInt8} (h1 : 48 ≤ b.toNat) (h2 : b.toNat ≤ 57) : Lib.digitVal b = some (b.toNat - 48) := by
  unfold Lib.digitVal
  rw [if_pos ⟨h1, h2⟩]
theorem number_bad {l : List UInt8} {k : Nat} {b : UInt8} (hk : l[k]? = some b) (h : ¬ (48 ≤ b.toNat ∧ b.toNat ≤ 57)) : Ck.numberI l = -1 := by
  unfold Ck.numberI
  split
  · cases hd : Lib.decFrom 0 l with
    | none => rfl
    | some n =>
      obtain ⟨d, hd⟩ := Lib.digit_of_decFrom l 0 n hd k b hk
      unfold Lib.digitVal at hd
      rw [if_neg h] at hd
      cases hd
  · rfl
theorem number_long {l : List UInt8} (h : 9 < l.length) : Ck.numberI l = -1 := by
  unfold Ck.numberI
  rw [if_neg (fun h' => by have := h'.1; omega)]
theorem number_empty : Ck.numberI [] = -1 := by decide +kernel
theorem number_zero {l : List UInt8} (h1 : 1 < l.length) (h2 : l.head? = some 48) : Ck.numberI l = -1 := by
  unfold Ck.numberI
  rw [if_neg (fun h' => h'.2.2 ⟨h1, h2⟩)]
theorem number_ok {l : List UInt8} {n : Nat} (h1 : l.length ≤ 9) (h2 : l ≠ []) (h3 : ¬ (1 < l.length ∧ l.head? = some 48)) (h : Lib.decFrom 0 l = some n) : Ck.numberI l = n := by
  unfold Ck.numberI
  rw [if_pos ⟨h1, h2, h3⟩, h]

set_option maxHeartbeats 1600000 in
theorem number_any (l : List UInt8) (w : World) (hs : l.length ≤ 1073741824) :
    Calls Tryd.prog 43 #[.string (S l)] w fun e w' => e = .returned (.int .i64 (Ck.numberI l)) ∧ w = w' := by
  have hsz : (S l).size ≤ 1073741824 := hs
  have HE := Lib.hid (S_empty l)
  go_enter Tryd.func43, Tryd.ntmps43
  go_wp2
  go_loop [3, 4] (fun v i => ∃ k m : Nat, k ≤ (S l).size ∧ k ≤ 9 ∧ i = .int .i64 k ∧ v = .int .i64 m ∧ m ≤ 999999999 ∧ Lib.decFrom 0 (l.take k) = some m) (fun _ i => (S l).size - (intOf i).toNat)
  case atStart => exact ⟨0, 0, Nat.zero_le _, by omega, rfl, rfl, by omega, rfl⟩
  case round =>
    obtain ⟨k, m, hk, hk9, rfl, rfl, hm, hd⟩ := hrel
    have HD := Lib.hid hd
    clear hd
    by_cases hlt : k < (S l).size
    · have HK := Lib.hid (show l[k]? = some (S l)[k] from Lib.data_getElem? (S l) k hlt)
      by_cases h1 : 48 ≤ (S l)[k].toNat
      · by_cases h2 : (S l)[k].toNat ≤ 57
        · by_cases h8 : k ≤ 8
          · have HN := Lib.hid (Lib.decFrom_take l k 0 m (S l)[k] ((S l)[k].toNat - 48) HD.out HK.out (digit_some h1 h2))
            have HB := Lib.hid (show m * 10 + ((S l)[k].toNat - 48) ≤ 999999999 by
              have h9 := Lib.decFrom_lt _ _ _ HN.out
              have hl9 : (l.take (k + 1)).length ≤ 9 := by rw [List.length_take]; omega
              have hp : 10 ^ (l.take (k + 1)).length ≤ 10 ^ 9 := Nat.pow_le_pow_right (by omega) hl9
              have : (0 + 1) * 10 ^ (l.take (k + 1)).length = 10 ^ (l.take (k + 1)).length := by omega
              rw [this] at h9
              have e9 : 10 ^ 9 = 1000000000 := by decide
              omega)
            have hB := HB.out
            have w1 : IntKind.u8.wrap ((((S l)[k]).toNat : Int) - 48) = (((S l)[k]).toNat : Int) - 48 := IntWalk.u8_in _ (by omega)
            have w2 : IntKind.i64.wrap (10 * (m : Int)) = 10 * (m : Int) := IntWalk.i64_in _ (by omega)
            have w3 : IntKind.i64.wrap (10 * (m : Int) + ((((S l)[k]).toNat : Int) - 48)) = 10 * (m : Int) + ((((S l)[k]).toNat : Int) - 48) := IntWalk.i64_in _ (by omega)
            have w4 : IntKind.i64.wrap ((((S l)[k]).toNat : Int) - 48) = (((S l)[k]).toNat : Int) - 48 := IntWalk.i64_in _ (by omega)
            go_wp2
            go_round
            case rel =>
              refine ⟨k + 1, m * 10 + ((S l)[k].toNat - 48), by omega, by omega, by go_num, ?_, hB, HN.out⟩
              congr 1
              omega
            case measure => simp [intOf]; omega
          · have HF := Lib.hid (number_long (l := l) (show 9 < (S l).size by omega))
            have h8' : (8 : Int) < (k : Int) := by omega
            clear h8
            go_wp2
            go_ret
            exact ⟨by rw [HF.out]; rfl, rfl⟩
        · have HF := Lib.hid (number_bad HK.out (fun h => h2 h.2))
          go_wp2
          go_ret
          exact ⟨by rw [HF.out]; rfl, rfl⟩
      · have HF := Lib.hid (number_bad HK.out (fun h => h1 h.1))
        go_wp2
        go_ret
        exact ⟨by rw [HF.out]; rfl, rfl⟩
    · have HL := Lib.hid (show Lib.decFrom 0 l = some m by
        have := HD.out
        rwa [List.take_of_length_le (show l.length ≤ k by have : (S l).size = l.length := rfl; omega)] at this)
      have HL9 := Lib.hid (show l.length ≤ 9 by have : (S l).size = l.length := rfl; omega)
      by_cases hl0 : l = []
      · have e0 : (S l).toList.isEmpty = true := by rw [HE.out, hl0]; rfl
        have HF := Lib.hid (show Ck.numberI l = -1 by rw [hl0]; exact number_empty)
        clear hl0
        go_wp2
        go_ret
        exact ⟨by rw [HF.out]; rfl, rfl⟩
      · have e0 : (S l).toList.isEmpty = false := by
          rw [HE.out]
          cases l with
          | nil => exact absurd rfl hl0
          | cons _ _ => rfl
        by_cases h1 : 1 < (S l).size
        · have z0 : 0 < (S l).size := by omega
          have h1' : (1 : Int) < ((S l).size : Int) := by omega
          have hh : l.head? = some ((S l)[0]'z0) := by
            have : l[0]? = some ((S l)[0]'z0) := Lib.data_getElem? (S l) 0 z0
            rw [← this]
            cases l <;> rfl
          by_cases h48 : (S l)[0]'z0 = 48
          · have e1 : ((((S l)[0]'z0).toNat : Int) == 48) = true := by rw [h48]; rfl
            have HF := Lib.hid (number_zero (l := l) h1 (by rw [hh, h48]))
            clear h48 hh hl0
            go_wp2
            go_ret
            exact ⟨by rw [HF.out]; rfl, rfl⟩
          · have e1 : ((((S l)[0]'z0).toNat : Int) == 48) = false := u8_ne (n := 48) 48 rfl h48
            have HF := Lib.hid (number_ok HL9.out hl0 (fun h => h48 (by have := h.2; rw [hh] at this; exact Option.some.inj this)) HL.out)
            clear h48 hh hl0
            go_wp2
            go_ret
            exact ⟨by rw [HF.out]; rfl, rfl⟩
        · have h1' : ((S l).size : Int) ≤ 1 := by omega
          have HF := Lib.hid (number_ok HL9.out hl0 (fun h => h1 h.1) HL.out)
          clear h1 hl0
          go_wp2
          go_ret
          exact ⟨by rw [HF.out]; rfl, rfl⟩
end Go.Proofs.YtpdilhnbbokipaaDoor
