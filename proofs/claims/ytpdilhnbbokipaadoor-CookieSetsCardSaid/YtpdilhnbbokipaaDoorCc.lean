/- What package cookie's isToken and isValue and the document's Token, Value and trim answer, for any texts of at most 2^30 bytes. -/
import Derived.Test.YtpdilhnbbokipaaDoorCb
import Derived.Test.YtpdilhnbbokipaaDoorCkPure
import Derived.Test.YtpdilhnbbokipaaDoorShelf
import Derived.Shelf.Strings.SlTrimAscii
namespace Go.Proofs.YtpdilhnbbokipaaDoor
set_option maxRecDepth 8000
open Go.RowKit

set_option maxHeartbeats 800000 in
theorem refToken_s (s : ByteArray) (w : World) (hs : s.size ≤ 1073741824) :
    Calls Tryd.prog 23 #[.string s] w fun e w' => e = .returned (.bool (Ck.token s.data.toList)) ∧ w = w' := by
  have HE := Lib.hid (show s.toList.isEmpty = s.data.toList.isEmpty by rw [Lib.toList_data])
  go_enter Tryd.func23, Tryd.ntmps23
  go_wp2
  go_loop [3] (fun i => ∃ k : Nat, k ≤ s.size ∧ i = .int .i64 k ∧ ∀ j (hj : j < s.size), j < k → Ck.tokB s[j] = true) (fun i => s.size - (intOf i).toNat)
  case atStart => exact ⟨0, Nat.zero_le _, rfl, fun j _ hj => absurd hj (by omega)⟩
  case round =>
    obtain ⟨k, hk, rfl, hall⟩ := hrel
    have HALL := Lib.hid hall
    clear hall
    by_cases hlt : k < s.size
    · cases hok : Ck.tokB s[k] with
      | true =>
        have hd := of_decide_eq_true hok
        have hround : ∀ j (hj : j < s.size), j < k + 1 → Ck.tokB s[j] = true := fun j hj hjk => by
          by_cases e : j = k
          · subst e; exact hok
          · exact HALL.out j hj (by omega)
        have HRD := Lib.hid hround
        clear hround hok
        rcases hd with hd | hd | hd | hd
        · have q1 : 97 ≤ s[k].toNat := hd.1
          have q2 : s[k].toNat ≤ 122 := hd.2
          clear hd
          go_wp2
          go_round
          case rel => exact ⟨k + 1, by omega, by go_num, HRD.out⟩
          case measure => simp [intOf]; omega
        · have q1 : 65 ≤ s[k].toNat := hd.1
          have q2 : s[k].toNat ≤ 90 := hd.2
          clear hd
          go_wp2
          go_round
          case rel => exact ⟨k + 1, by omega, by go_num, HRD.out⟩
          case measure => simp [intOf]; omega
        · have q1 : 48 ≤ s[k].toNat := hd.1
          have q2 : s[k].toNat ≤ 57 := hd.2
          clear hd
          go_wp2
          go_round
          case rel => exact ⟨k + 1, by omega, by go_num, HRD.out⟩
          case measure => simp [intOf]; omega
        · have q0 : s[k].toNat = 45 := hd
          have q1 : ((s[k].toNat : Int) != 45) = false := by simp; omega
          have q2 : (s[k].toNat : Int) < 48 := by omega
          clear hd q0
          go_wp2
          go_round
          case rel => exact ⟨k + 1, by omega, by go_num, HRD.out⟩
          case measure => simp [intOf]; omega
      | false =>
        have HF := Lib.hid (show Ck.token s.data.toList = false by unfold Ck.token; rw [all_bad hlt hok]; simp)
        have HC := Lib.hid (of_decide_eq_false hok)
        have q1 : ((s[k].toNat : Int) != 45) = true := bne_iff_ne.2 (fun e => HC.out (by omega))
        clear hok
        go_wp2
        all_goals first
          | (go_ret
             exact ⟨ret_bool HF.out.symm, rfl⟩)
          | (exfalso
             have := HC.out
             omega)
    · have HT := Lib.hid (show Ck.token s.data.toList = !s.toList.isEmpty by
        unfold Ck.token
        rw [all_of_get fun j hj => HALL.out j hj (by omega), Bool.and_true, HE.out])
      go_wp2
      go_ret
      exact ⟨ret_bool HT.out.symm, rfl⟩
theorem refToken_any (l : List UInt8) (w : World) (hs : l.length ≤ 1073741824) :
    Calls Tryd.prog 23 #[.string (S l)] w fun e w' => e = .returned (.bool (Ck.token l)) ∧ w = w' := refToken_s (S l) w hs

def toksS : ByteArray := S Ck.toks
theorem trim_toks (l : List UInt8) (w : World) (hs : l.length ≤ 1073741824) :
    Calls Tryd.prog 33 #[.string (S l), .string toksS] w fun e w' => e = .returned (.string (S (Lib.trimS l Ck.toks))) ∧ Below w.heap.size w w' := by
  have hz : (S l).size = l.length := rfl
  exact Any.strings_Trim_laid Tryd.lays160 (by kernel_rfl) (S l) toksS w (by omega) (by decide +kernel) (ascii_of_all (by decide +kernel))
theorem trim_one (l : List UInt8) (w : World) (hs : l.length ≤ 1073741824) :
    Calls Tryd.prog 33 #[.string (S l), .string ⟨#[32]⟩] w fun e w' => e = .returned (.string (S (Ck.trim l))) ∧ Below w.heap.size w w' := by
  have hz : (S l).size = l.length := rfl
  refine (Tryd.strings_Trim_one (S l) 32 (by decide) w (by omega)).mono fun e w' ⟨he, hw⟩ => ⟨?_, ?_⟩
  · rw [he]
    unfold Ck.trim
    rw [Lib.trimS_one]; rfl
  · rcases hw with rfl | rfl
    · exact Below.refl _ _
    · exact below_drewN (Below.refl _ _) 1

set_option maxHeartbeats 400000 in
set_option maxRecDepth 100000 in
theorem isToken_any (l : List UInt8) (w : World) (hs : l.length ≤ 1073741824) :
    Calls Tryd.prog 34 #[.string (S l)] w fun e w' => e = .returned (.bool (Ck.token l)) ∧ Below w.heap.size w w' := by
  have HK := Lib.hid (Ck.token_trim l)
  have hT := fun w' => trim_toks l w' hs
  have hE := S_empty l
  obtain ⟨x, hx⟩ : ∃ x, x = Lib.trimS l Ck.toks := ⟨_, rfl⟩
  rw [← hx] at HK hT
  clear hx
  have hX := S_empty x
  cases hl : l.isEmpty with
  | true =>
    rw [hl] at HK hE
    go_enter Tryd.func34, Tryd.ntmps34
    go_wp2
    go_ret
    exact ⟨ret_bool HK.out.symm, Below.refl _ _⟩
  | false =>
    rw [hl] at HK hE
    go_enter Tryd.func34, Tryd.ntmps34
    go_wp2_with (go_at_call 33; refine (hT _).mono ?_; rintro e w' ⟨rfl, hb⟩)
    go_ret
    exact ⟨ret_bool (by rw [HK.out]; rfl), hb⟩

def barB (c : UInt8) : Bool := c == 34 || c == 44 || c == 59 || c == 92
theorem bar_index (c : UInt8) : decide (0 ≤ Lib.indexByte [34, 44, 59, 92] c) = barB c := by
  have := Ck.byte_all (P := fun c => decide (0 ≤ Lib.indexByte [34, 44, 59, 92] c) == barB c) (by decide +kernel) c
  exact beq_iff_eq.1 this
theorem val_bar (c : UInt8) : Ck.valB c = (decide (33 ≤ c.toNat) && decide (c.toNat ≤ 126) && !barB c) := by
  have := Ck.byte_all (P := fun c => Ck.valB c == (decide (33 ≤ c.toNat) && decide (c.toNat ≤ 126) && !barB c)) (by decide +kernel) c
  exact beq_iff_eq.1 this
theorem bar_yes (c : UInt8) (w : World) (h : barB c = true) :
    Calls Tryd.prog 58 #[.string ⟨#[34, 44, 59, 92]⟩, .int .u8 (c.toNat : Int)] w fun e w' => ∃ i : Nat, e = .returned (.int .i64 (i : Int)) ∧ w = w' := by
  refine (Tryd.strings_IndexByte ⟨#[34, 44, 59, 92]⟩ (c.toNat : Int) w).mono fun e w' ⟨he, hw⟩ => ?_
  have hc : ((c.toNat : Int).toNat).toUInt8 = c := by simp
  rw [hc] at he
  have h2 := bar_index c
  rw [h] at h2
  have h2 : 0 ≤ Lib.indexByte [34, 44, 59, 92] c := of_decide_eq_true h2
  refine ⟨(Lib.indexByte [34, 44, 59, 92] c).toNat, ?_, hw.symm⟩
  rw [he]
  show Ending.returned (.int .i64 (Lib.indexByte [34, 44, 59, 92] c)) = _
  rw [Int.toNat_of_nonneg h2]
theorem bar_no (c : UInt8) (w : World) (h : barB c = false) :
    Calls Tryd.prog 58 #[.string ⟨#[34, 44, 59, 92]⟩, .int .u8 (c.toNat : Int)] w fun e w' => e = .returned (.int .i64 (-1)) ∧ w = w' := by
  refine (Tryd.strings_IndexByte ⟨#[34, 44, 59, 92]⟩ (c.toNat : Int) w).mono fun e w' ⟨he, hw⟩ => ?_
  have hc : ((c.toNat : Int).toNat).toUInt8 = c := by simp
  rw [hc] at he
  have h2 := bar_index c
  rw [h] at h2
  have h2 : ¬ 0 ≤ Lib.indexByte [34, 44, 59, 92] c := of_decide_eq_false h2
  have h3 := Lib.indexByte_ge [34, 44, 59, 92] c
  refine ⟨?_, hw.symm⟩
  rw [he]
  show Ending.returned (.int .i64 (Lib.indexByte [34, 44, 59, 92] c)) = _
  rw [show Lib.indexByte [34, 44, 59, 92] c = -1 by omega]

set_option maxHeartbeats 400000 in
theorem isValue_s (s : ByteArray) (w : World) (hs : s.size ≤ 1073741824) :
    Calls Tryd.prog 35 #[.string s] w fun e w' => e = .returned (.bool (Ck.value s.data.toList)) ∧ w = w' := by
  go_enter Tryd.func35, Tryd.ntmps35
  go_wp2
  go_loop [6] (fun i => ∃ k : Nat, k ≤ s.size ∧ i = .int .i64 k ∧ ∀ j (hj : j < s.size), j < k → Ck.valB s[j] = true) (fun i => s.size - (intOf i).toNat)
  case atStart => exact ⟨0, Nat.zero_le _, rfl, fun j _ hj => absurd hj (by omega)⟩
  case round =>
    obtain ⟨k, hk, rfl, hall⟩ := hrel
    have HALL := Lib.hid hall
    clear hall
    by_cases hlt : k < s.size
    · have HV := Lib.hid (val_bar s[k])
      have HB := Lib.hid (show Ck.valB s[k] = false → Ck.value s.data.toList = false from fun h => all_bad hlt h)
      by_cases h1 : 33 ≤ s[k].toNat
      · by_cases h2 : s[k].toNat ≤ 126
        · cases hb : barB s[k] with
          | true =>
            have HF := Lib.hid (HB.out (by rw [HV.out, hb]; simp))
            have hI := fun w' => bar_yes s[k] w' hb
            clear hb
            go_wp2_with (go_at_call 58; refine (hI _).mono ?_; rintro e w' ⟨i, rfl, rfl⟩; have hi0 : (0 : Int) ≤ (i : Int) := Int.natCast_nonneg i)
            go_ret
            exact ⟨ret_bool HF.out.symm, rfl⟩
          | false =>
            have HT := Lib.hid (show Ck.valB s[k] = true by rw [HV.out, hb]; simp [h1, h2])
            have hI := fun w' => bar_no s[k] w' hb
            clear hb
            go_wp2_with (go_at_call 58; refine (hI _).mono ?_; rintro e w' ⟨rfl, rfl⟩)
            go_round
            case rel =>
              refine ⟨k + 1, by omega, by go_num, fun j hj hjk => ?_⟩
              by_cases e : j = k
              · subst e; exact HT.out
              · exact HALL.out j hj (by omega)
            case measure => simp [intOf]; omega
        · have HF := Lib.hid (HB.out (by rw [HV.out]; simp [h2]))
          go_wp2
          go_ret
          exact ⟨ret_bool HF.out.symm, rfl⟩
      · have HF := Lib.hid (HB.out (by rw [HV.out]; simp [h1]))
        go_wp2
        go_ret
        exact ⟨ret_bool HF.out.symm, rfl⟩
    · have HT := Lib.hid (show Ck.value s.data.toList = true from all_of_get fun j hj => HALL.out j hj (by omega))
      go_wp2
      go_ret
      exact ⟨ret_bool HT.out.symm, rfl⟩
theorem isValue_any (l : List UInt8) (w : World) (hs : l.length ≤ 1073741824) :
    Calls Tryd.prog 35 #[.string (S l)] w fun e w' => e = .returned (.bool (Ck.value l)) ∧ w = w' := isValue_s (S l) w hs

set_option maxHeartbeats 800000 in
theorem refValue_s (s : ByteArray) (w : World) (hs : s.size ≤ 1073741824) :
    Calls Tryd.prog 24 #[.string s] w fun e w' => e = .returned (.bool (Ck.value s.data.toList)) ∧ w = w' := by
  go_enter Tryd.func24, Tryd.ntmps24
  go_wp2
  go_loop [3] (fun i => ∃ k : Nat, k ≤ s.size ∧ i = .int .i64 k ∧ ∀ j (hj : j < s.size), j < k → Ck.valB s[j] = true) (fun i => s.size - (intOf i).toNat)
  case atStart => exact ⟨0, Nat.zero_le _, rfl, fun j _ hj => absurd hj (by omega)⟩
  case round =>
    obtain ⟨k, hk, rfl, hall⟩ := hrel
    have HALL := Lib.hid hall
    clear hall
    by_cases hlt : k < s.size
    · cases hok : Ck.valB s[k] with
      | true =>
        have hround : ∀ j (hj : j < s.size), j < k + 1 → Ck.valB s[j] = true := fun j hj hjk => by
          by_cases e : j = k
          · subst e; exact hok
          · exact HALL.out j hj (by omega)
        have HRD := Lib.hid hround
        obtain ⟨q1, q2, q3, q4, q5, q6⟩ := of_decide_eq_true hok
        have e3 : ((s[k].toNat : Int) == 34) = false := beq_eq_false_iff_ne.2 (by omega)
        have e4 : ((s[k].toNat : Int) == 44) = false := beq_eq_false_iff_ne.2 (by omega)
        have e5 : ((s[k].toNat : Int) == 59) = false := beq_eq_false_iff_ne.2 (by omega)
        have e6 : ((s[k].toNat : Int) == 92) = false := beq_eq_false_iff_ne.2 (by omega)
        clear hround hok q3 q4 q5 q6
        go_wp2
        go_round
        case rel => exact ⟨k + 1, by omega, by go_num, HRD.out⟩
        case measure => simp [intOf]; omega
      | false =>
        have HF := Lib.hid (show Ck.value s.data.toList = false from all_bad hlt hok)
        have HC := Lib.hid (of_decide_eq_false hok)
        clear hok
        go_wp2
        all_goals first
          | (go_ret
             exact ⟨ret_bool HF.out.symm, rfl⟩)
          | (exfalso
             have hc := HC.out
             simp only [beq_eq_false_iff_ne, ne_eq] at *
             omega)
    · have HT := Lib.hid (show Ck.value s.data.toList = true from all_of_get fun j hj => HALL.out j hj (by omega))
      go_wp2
      go_ret
      exact ⟨ret_bool HT.out.symm, rfl⟩
theorem refValue_any (l : List UInt8) (w : World) (hs : l.length ≤ 1073741824) :
    Calls Tryd.prog 24 #[.string (S l)] w fun e w' => e = .returned (.bool (Ck.value l)) ∧ w = w' := refValue_s (S l) w hs
end Go.Proofs.YtpdilhnbbokipaaDoor
