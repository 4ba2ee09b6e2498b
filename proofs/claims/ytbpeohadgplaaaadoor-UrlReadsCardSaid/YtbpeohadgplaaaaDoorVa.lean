/- What package url's ownPort, mayStand, isHost and portOf answer, for any byte and any text of at most 2^30 bytes. -/
import Derived.Test.YtbpeohadgplaaaaDoorAny
import Derived.Test.YtbpeohadgplaaaaDoorUrlA
import Derived.Test.YtbpeohadgplaaaaDoorHelp
namespace Go.Proofs.YtbpeohadgplaaaaDoor
set_option maxRecDepth 8000
open Go.RowKit

def ownP (sc : List UInt8) : Int := if sc = Url.https then 443 else 80

theorem ownPort_any (l : List UInt8) (w : World) :
    Calls Tryd.prog 41 #[.string (S l)] w fun e w' => e = .returned (.int .i64 (ownP l)) ∧ w = w' := by
  have hS := S_list
  by_cases h : l = Url.https
  · subst h
    go_enter Tryd.func41, Tryd.ntmps41
    go_wp2
    go_ret
    exact ⟨rfl, rfl⟩
  · have h1 : (l == [104, 116, 116, 112, 115]) = false := beq_eq_false_iff_ne.2 h
    go_enter Tryd.func41, Tryd.ntmps41
    go_wp2
    go_ret
    refine ⟨?_, rfl⟩
    unfold ownP
    rw [if_neg h]
    rfl

def barredL : List UInt8 := [34, 60, 62, 35, 92, 94, 123, 124, 125, 96]
theorem may_ok (c : UInt8) : (decide (33 ≤ c.toNat ∧ c.toNat ≤ 126) && decide (Lib.indexByte barredL c < 0)) = Url.okB2 c := by
  have := Url.byte_all (P := fun c => (decide (33 ≤ c.toNat ∧ c.toNat ≤ 126) && decide (Lib.indexByte barredL c < 0)) == Url.okB2 c) (by decide +kernel) c
  simpa using this

theorem mayStand_any (c : UInt8) (w : World) :
    Calls Tryd.prog 76 #[B c] w fun e w' => e = .returned (.bool (Url.okB2 c)) ∧ w = w' := by
  have H := Lib.hid (may_ok c)
  go_enter Tryd.func76, Tryd.ntmps76
  go_wp2_with (go_at_call 101; refine (indexByteQ (S barredL) c _).mono ?_; rintro e w' ⟨rfl, rfl⟩)
  all_goals
    go_ret
    refine ⟨ret_bool ?_, rfl⟩
    rw [← H.out]
  · have h1 : 33 ≤ c.toNat ∧ c.toNat ≤ 126 := ⟨by omega, by omega⟩
    simp [h1]
    rfl
  · rw [decide_eq_false (p := 33 ≤ c.toNat ∧ c.toNat ≤ 126) (by omega)]
    rfl
  · rw [decide_eq_false (p := 33 ≤ c.toNat ∧ c.toNat ≤ 126) (by omega)]
    rfl

/-- A byte that a host may have, in whatever case. -/
def hostA (c : UInt8) : Bool := Url.hostB (Url.lower c)
theorem host_plain (c : UInt8) : hostA c = (Pct.plainB c && !(c == 95) && !(c == 126)) := by
  have := Url.byte_all (P := fun c => hostA c == (Pct.plainB c && !(c == 95) && !(c == 126))) (by decide +kernel) c
  simpa using this
def hostOk (l : List UInt8) : Bool := decide (l ≠ []) && decide (l.length ≤ 64) && l.all hostA

theorem hostOk_bad {s : ByteArray} {k : Nat} (hk : k < s.size) (h : hostA s[k] = false) : hostOk s.data.toList = false := by
  unfold hostOk
  have : s.data.toList.all hostA = false := by
    rw [← Bool.not_eq_true]
    intro ha
    have := List.all_eq_true.1 ha s[k] (by
      have := Lib.data_getElem? s k hk
      exact List.mem_of_getElem? this)
    rw [h] at this
    cases this
  rw [this]
  simp

set_option maxHeartbeats 400000 in
theorem isHost_any (s : ByteArray) (w : World) (hs : s.size ≤ 1073741824) :
    Calls Tryd.prog 39 #[.string s] w fun e w' => e = .returned (.bool (hostOk s.data.toList)) ∧ w = w' := by
  have hz := Lib.size_eq s
  by_cases h0 : s.size = 0
  · have he : s.toList.isEmpty = true := by
      rw [Lib.toList_data]
      rw [h0] at hz
      rw [List.length_eq_zero_iff.1 hz.symm]
      rfl
    have H := Lib.hid (show hostOk s.data.toList = false by
      rw [h0] at hz
      rw [List.length_eq_zero_iff.1 hz.symm]
      rfl)
    clear hz
    go_enter Tryd.func39, Tryd.ntmps39
    go_wp2
    go_ret
    exact ⟨ret_bool H.out.symm, rfl⟩
  · have he : s.toList.isEmpty = false := by
      rw [Lib.toList_data]
      cases hl : s.data.toList with
      | nil => rw [hl] at hz; exact absurd hz h0
      | cons _ _ => rfl
    by_cases h64 : s.size ≤ 64
    · have HZ := Lib.hid hz
      clear hz
      go_enter Tryd.func39, Tryd.ntmps39
      go_wp2
      go_loop [13] (fun i => ∃ k : Nat, k ≤ s.size ∧ i = .int .i64 k ∧ ∀ j (hj : j < s.size), j < k → hostA s[j] = true) (fun i => s.size - (intOf i).toNat)
      case atStart => exact ⟨0, Nat.zero_le _, rfl, fun j _ hj => absurd hj (by omega)⟩
      case round =>
        obtain ⟨k, hk, rfl, hall⟩ := hrel
        have HALL := Lib.hid hall
        clear hall
        by_cases hlt : k < s.size
        · have HP := Lib.hid (host_plain s[k])
          have HB := Lib.hid (fun h => hostOk_bad hlt h)
          by_cases hp : Pct.plainB s[k] = true
          · by_cases h95 : s[k] = 95
            · have e1 : ((s[k].toNat : Int) == 95) = true := by rw [h95]; rfl
              have HF := Lib.hid (HB.out (by rw [HP.out, h95]; rfl))
              clear h95
              go_wp2_with (go_at_call 72; refine (plain_any _ _).mono ?_; rintro e w' ⟨rfl, rfl⟩; rw [hp])
              go_ret
              exact ⟨ret_bool HF.out.symm, rfl⟩
            · have e1 : ((s[k].toNat : Int) == 95) = false := by
                rw [beq_eq_false_iff_ne]
                intro h
                exact h95 (Pct.u8_eq (by show s[k].toNat = 95; omega))
              by_cases h126 : s[k] = 126
              · have e2 : ((s[k].toNat : Int) == 126) = true := by rw [h126]; rfl
                have HF := Lib.hid (HB.out (by rw [HP.out, h126]; rfl))
                clear h126
                go_wp2_with (go_at_call 72; refine (plain_any _ _).mono ?_; rintro e w' ⟨rfl, rfl⟩; rw [hp])
                go_ret
                exact ⟨ret_bool HF.out.symm, rfl⟩
              · have e2 : ((s[k].toNat : Int) == 126) = false := by
                  rw [beq_eq_false_iff_ne]
                  intro h
                  exact h126 (Pct.u8_eq (by show s[k].toNat = 126; omega))
                have HT := Lib.hid (show hostA s[k] = true by rw [HP.out, hp]; simp [h95, h126])
                clear h95 h126
                go_wp2_with (go_at_call 72; refine (plain_any _ _).mono ?_; rintro e w' ⟨rfl, rfl⟩; rw [hp])
                go_round
                case rel =>
                  refine ⟨k + 1, by omega, by go_num, fun j hj hjk => ?_⟩
                  by_cases e : j = k
                  · subst e; exact HT.out
                  · exact HALL.out j hj (by omega)
                case measure => simp [intOf]; omega
          · have hp' : Pct.plainB s[k] = false := by simpa using hp
            have HF := Lib.hid (HB.out (by rw [HP.out, hp']; rfl))
            clear hp
            go_wp2_with (go_at_call 72; refine (plain_any _ _).mono ?_; rintro e w' ⟨rfl, rfl⟩; rw [hp'])
            go_ret
            exact ⟨ret_bool HF.out.symm, rfl⟩
        · have HT := Lib.hid (show hostOk s.data.toList = true by
            unfold hostOk
            have ha : s.data.toList.all hostA = true := by
              rw [List.all_eq_true]
              intro x hx
              obtain ⟨j, hj, rfl⟩ := List.getElem_of_mem hx
              exact HALL.out j (by simpa using hj) (by have : j < s.size := by simpa using hj
                                                       omega)
            rw [ha, decide_eq_true (p := s.data.toList.length ≤ 64) (by have := HZ.out; omega)]
            have : s.data.toList ≠ [] := by
              intro h
              have := HZ.out
              rw [h] at this
              exact h0 this
            simp [this])
          go_wp2
          go_ret
          exact ⟨ret_bool HT.out.symm, rfl⟩
    · have H := Lib.hid (show hostOk s.data.toList = false by
        unfold hostOk
        rw [decide_eq_false (p := s.data.toList.length ≤ 64) (by omega)]
        simp)
      clear hz
      go_enter Tryd.func39, Tryd.ntmps39
      go_wp2
      go_ret
      exact ⟨ret_bool H.out.symm, rfl⟩
end Go.Proofs.YtbpeohadgplaaaaDoor
