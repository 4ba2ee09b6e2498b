/- The document's to and Name of package xml, for texts of at most 2^40 bytes. -/
import Derived.Test.YtpleaopefngafaaDoorXmEp
import Derived.Test.YtpleaopefngafaaDoorXmY
namespace Go.Proofs.YtpleaopefngafaaDoor
set_option maxRecDepth 8000
open Go.RowKit

theorem tk_step (c x : UInt8) (r : List UInt8) : Xm.tk c (x :: r) = if x = c then [] else x :: Xm.tk c r := by
  unfold Xm.tk
  rw [List.takeWhile_cons]
  by_cases h : x = c <;> simp [h]
set_option maxHeartbeats 2000000 in
theorem to_any (l : List UInt8) (k0 : Nat) (hk0 : k0 ≤ l.length) (c : UInt8) (n : Int) (hn : (c.toNat : Int) = n) (w : World) (hs : l.length ≤ 1099511627776) :
    Calls Tryd.prog 25 #[.string (S l), .int .i64 (k0 : Int), .int .u8 n] w fun e w' => e = .returned (.int .i64 ((k0 + (Xm.tk c (l.drop k0)).length : Nat) : Int)) ∧ w = w' := by
  have HSl := Lib.hid (show (S l).data.toList = l from S_toList l)
  obtain ⟨s, hs'⟩ : ∃ s, s = S l := ⟨_, rfl⟩
  have hz : s.size ≤ 1099511627776 := by rw [hs']; exact hs
  have hzl : s.size = l.length := by rw [hs']; rfl
  rw [← hs'] at HSl ⊢
  obtain ⟨E, hE⟩ : ∃ E, E = k0 + (Xm.tk c (l.drop k0)).length := ⟨_, rfl⟩
  rw [← hE]
  have HE := Lib.hid hE
  have HZ := Lib.hid hzl
  have HK0 := Lib.hid hk0
  have HCN := Lib.hid hn
  clear hs' hs hE hzl hk0 hn
  go_enter Tryd.func25, Tryd.ntmps25
  go_wp2
  go_loop [1] (fun i => ∃ k : Nat, k ≤ s.size ∧ i = .int .i64 (k : Int) ∧ E = k + (Xm.tk c (l.drop k)).length) (fun i => s.size - (intOf i).toNat)
  case atStart => exact ⟨k0, by rw [HZ.out]; exact HK0.out, rfl, HE.out⟩
  case round =>
    obtain ⟨k, hk, rfl, hE⟩ := hrel
    have HR := Lib.hid hE
    clear hE
    by_cases hlt : k < s.size
    · have hkl : k < l.length := by rw [← HZ.out]; exact hlt
      have HD : Hid (l.drop k = s[k] :: l.drop (k + 1)) := Lib.hid (by
        rw [List.drop_eq_getElem_cons hkl]
        congr 1
        have h := HSl.out
        subst h
        rfl)
      clear hkl
      by_cases hc : s[k] = c
      · have k1 : ((s[k].toNat : Int) == n) = true := by rw [hc, HCN.out]; simp
        have k2 : ((s[k].toNat : Int) != n) = false := by unfold bne; rw [k1]; rfl
        have HF : Hid (E = k) := Lib.hid (by rw [HR.out, HD.out, tk_step, if_pos hc]; rfl)
        clear hc
        go_wp2
        go_ret
        exact ⟨by rw [HF.out]; rfl, rfl⟩
      · have k1 := u8_ne c HCN.out hc
        have k2 : ((s[k].toNat : Int) != n) = true := by unfold bne; rw [k1]; rfl
        have HF : Hid (E = k + 1 + (Xm.tk c (l.drop (k + 1))).length) := Lib.hid (by rw [HR.out, HD.out, tk_step, if_neg hc, List.length_cons]; omega)
        clear hc
        go_wp2
        go_round
        case rel => exact ⟨k + 1, by omega, by go_num, HF.out⟩
        case measure => simp [intOf]; omega
    · have HF : Hid (E = k) := Lib.hid (by rw [HR.out, List.drop_eq_nil_of_le (by have := HZ.out; omega)]; rfl)
      go_wp2
      go_ret
      exact ⟨by rw [HF.out]; rfl, rfl⟩

theorem letter_all : ∀ n : Nat, n < 256 → (Xm.letterB (UInt8.ofNat n) == ((decide ((97 : Int) ≤ ((UInt8.ofNat n).toNat : Int)) && decide (((UInt8.ofNat n).toNat : Int) ≤ 122)) || (decide ((65 : Int) ≤ ((UInt8.ofNat n).toNat : Int)) && decide (((UInt8.ofNat n).toNat : Int) ≤ 90)))) = true := by decide +kernel
theorem letter_bits (c : UInt8) : Xm.letterB c = ((decide ((97 : Int) ≤ (c.toNat : Int)) && decide ((c.toNat : Int) ≤ 122)) || (decide ((65 : Int) ≤ (c.toNat : Int)) && decide ((c.toNat : Int) ≤ 90))) := by
  have := Xm.byte_all (P := fun c => Xm.letterB c == ((decide ((97 : Int) ≤ (c.toNat : Int)) && decide ((c.toNat : Int) ≤ 122)) || (decide ((65 : Int) ≤ (c.toNat : Int)) && decide ((c.toNat : Int) ≤ 90)))) letter_all c
  exact beq_iff_eq.1 this
theorem name_all2 : ∀ n : Nat, n < 256 → (Xm.nameByte (UInt8.ofNat n) == (Xm.letterB (UInt8.ofNat n) || !((decide (((UInt8.ofNat n).toNat : Int) < 48) || decide ((57 : Int) < ((UInt8.ofNat n).toNat : Int))) && (((UInt8.ofNat n).toNat : Int) != 58) && (((UInt8.ofNat n).toNat : Int) != 45) && (((UInt8.ofNat n).toNat : Int) != 95)))) = true := by decide +kernel
theorem name_bits (c : UInt8) : Xm.nameByte c = (Xm.letterB c || !((decide ((c.toNat : Int) < 48) || decide ((57 : Int) < (c.toNat : Int))) && ((c.toNat : Int) != 58) && ((c.toNat : Int) != 45) && ((c.toNat : Int) != 95))) := by
  have := Xm.byte_all (P := fun c => Xm.nameByte c == (Xm.letterB c || !((decide ((c.toNat : Int) < 48) || decide ((57 : Int) < (c.toNat : Int))) && ((c.toNat : Int) != 58) && ((c.toNat : Int) != 45) && ((c.toNat : Int) != 95)))) name_all2 c
  exact beq_iff_eq.1 this
theorem name_letter {c : UInt8} (h : Xm.letterB c = true) : Xm.nameByte c = true := by rw [name_bits, h]; rfl
theorem name_of' {l : List UInt8} : Xm.nameB l = match l with | [] => false | c :: r => Xm.letterB c && (c :: r).all Xm.nameByte := by
  cases l with
  | nil => rfl
  | cons c r => exact nameB_cons c r
theorem name_first {l : List UInt8} (hk : 0 < l.length) (h : Xm.letterB l[0] = false) : Xm.nameB l = false := by
  cases l with
  | nil => simp at hk
  | cons c r =>
    have h' : Xm.letterB c = false := h
    rw [name_of']
    dsimp only
    rw [h', Bool.false_and]
theorem name_of {l : List UInt8} : Xm.nameB l = match l with | [] => false | c :: r => Xm.letterB c && (c :: r).all Xm.nameByte := by
  cases l with
  | nil => rfl
  | cons c r => exact nameB_cons c r
theorem name_badAt {l : List UInt8} (h : l.all Xm.nameByte = false) : Xm.nameB l = false := by
  rw [name_of]
  cases l with
  | nil => rfl
  | cons c r => dsimp only; rw [h, Bool.and_false]
theorem name_good {l : List UInt8} (h : l.all Xm.nameByte = true) (hk : 0 < l.length) (h0 : Xm.letterB l[0] = true) : Xm.nameB l = true := by
  rw [name_of]
  cases l with
  | nil => simp at hk
  | cons c r => dsimp only; rw [h, show Xm.letterB c = true from h0]; rfl

set_option maxHeartbeats 3200000 in
theorem refName_any (l : List UInt8) (w : World) (hs : l.length ≤ 1099511627776) :
    Calls Tryd.prog 40 #[.string (S l)] w fun e w' => e = .returned (.bool (Xm.nameB l)) ∧ w = w' := by
  have HSl := Lib.hid (show (S l).data.toList = l from S_toList l)
  obtain ⟨s, hs'⟩ : ∃ s, s = S l := ⟨_, rfl⟩
  have hz : s.size ≤ 1099511627776 := by rw [hs']; exact hs
  rw [← hs'] at HSl ⊢
  clear hs' hs
  go_enter Tryd.func40, Tryd.ntmps40
  go_wp2
  go_loop [3] (fun i => ∃ k : Nat, k ≤ s.size ∧ i = .int .i64 (k : Int) ∧ (∀ j (hj : j < s.size), j < k → Xm.nameByte s[j] = true) ∧ (∀ (hj : 0 < s.size), 0 < k → Xm.letterB s[0] = true)) (fun i => s.size - (intOf i).toNat)
  case atStart => exact ⟨0, Nat.zero_le _, rfl, fun j _ hj => absurd hj (by omega), fun _ h => absurd h (by omega)⟩
  case round =>
    obtain ⟨k, hk, rfl, hall, hfst⟩ := hrel
    have HALL := Lib.hid hall
    have HFST := Lib.hid hfst
    clear hall hfst
    by_cases hlt : k < s.size
    · have hbl := letter_bits s[k]
      have hbn := name_bits s[k]
      obtain ⟨x, hx⟩ : ∃ x : Int, x = (s[k].toNat : Int) := ⟨_, rfl⟩
      have HX := Lib.hid hx
      by_cases hL : Xm.letterB s[k] = true
      · have HN : Hid (Xm.nameByte s[k] = true) := Lib.hid (name_letter hL)
        have HL := Lib.hid hL
        rw [hL] at hbl
        have hr : (97 ≤ x ∧ x ≤ 122) ∨ (65 ≤ x ∧ x ≤ 90) := by
          rw [← hx] at hbl
          simpa using hbl.symm
        clear hbl hbn hL
        rcases hr with ⟨r1, r2⟩ | ⟨r1, r2⟩
        · rw [hx] at r1 r2
          clear hx
          go_wp2
          go_round
          case rel =>
            refine ⟨k + 1, by omega, by go_num, fun j hj hjk => ?_, fun hj _ => ?_⟩
            · by_cases e : j = k
              · subst e; exact HN.out
              · exact HALL.out j hj (by omega)
            · by_cases e : k = 0
              · subst e; exact HL.out
              · exact HFST.out hj (by omega)
          case measure => simp [intOf]; omega
        · have r3 : ¬ (97 : Int) ≤ x := by omega
          rw [hx] at r1 r2 r3
          clear hx
          go_wp2
          go_round
          case rel =>
            refine ⟨k + 1, by omega, by go_num, fun j hj hjk => ?_, fun hj _ => ?_⟩
            · by_cases e : j = k
              · subst e; exact HN.out
              · exact HALL.out j hj (by omega)
            · by_cases e : k = 0
              · subst e; exact HL.out
              · exact HFST.out hj (by omega)
          case measure => simp [intOf]; omega
      · have hL' : Xm.letterB s[k] = false := by simpa using hL
        have HL := Lib.hid hL'
        rw [hL'] at hbl hbn
        have hr : (x < 65) ∨ (90 < x ∧ x < 97) ∨ 122 < x := by
          rw [← hx] at hbl
          by_cases h1 : x < 65
          · exact .inl h1
          by_cases h2 : 122 < x
          · exact .inr (.inr h2)
          by_cases h3 : x ≤ 90
          · rw [show decide ((65 : Int) ≤ x) = true from decide_eq_true (by omega), show decide (x ≤ 90) = true from decide_eq_true h3] at hbl
            simp at hbl
          by_cases h4 : 97 ≤ x
          · rw [show decide ((97 : Int) ≤ x) = true from decide_eq_true (by omega), show decide (x ≤ 122) = true from decide_eq_true (by omega)] at hbl
            simp at hbl
          exact .inr (.inl ⟨by omega, by omega⟩)
        have HBN := Lib.hid hbn
        clear hbl hbn hL hL'
        by_cases hk0 : k = 0
        · have HF : Hid (Xm.nameB l = false) := Lib.hid (by
            have h : Xm.nameB s.data.toList = false := name_first (by subst hk0; exact hlt) (by
              subst hk0
              exact HL.out)
            rwa [HSl.out] at h)
          have hkI : ((k : Int) == 0) = true := by rw [hk0]; rfl
          clear hk0
          rcases hr with r1 | ⟨r1, r2⟩ | r1
          · have r3 : ¬ (97 : Int) ≤ x := by omega
            have r4 : ¬ (65 : Int) ≤ x := by omega
            rw [hx] at r1 r3 r4
            clear hx
            go_wp2; go_ret; exact ⟨ret_bool HF.out.symm, rfl⟩
          · have r3 : ¬ (97 : Int) ≤ x := by omega
            have r4 : (65 : Int) ≤ x := by omega
            have r5 : ¬ x ≤ 90 := by omega
            rw [hx] at r1 r2 r3 r4 r5
            clear hx
            go_wp2; go_ret; exact ⟨ret_bool HF.out.symm, rfl⟩
          · have r3 : (97 : Int) ≤ x := by omega
            have r4 : ¬ x ≤ 122 := by omega
            have r5 : (65 : Int) ≤ x := by omega
            have r6 : ¬ x ≤ 90 := by omega
            rw [hx] at r1 r3 r4 r5 r6
            clear hx
            go_wp2; go_ret; exact ⟨ret_bool HF.out.symm, rfl⟩
        · have hkI : ((k : Int) == 0) = false := by simpa using hk0
          have HK0 := Lib.hid hk0
          clear hk0
          obtain ⟨nb, hnb⟩ : ∃ b, Xm.nameByte s[k] = b := ⟨_, rfl⟩
          have HNB := Lib.hid hnb
          have HB := HBN.out
          rw [hnb, ← hx, Bool.false_or] at HB
          have a1 : decide (x < 48) = true ∨ decide (x < 48) = false := by cases decide (x < 48) <;> simp
          obtain ⟨q1, f1⟩ : ∃ q, decide (x < 48) = q := ⟨_, rfl⟩
          obtain ⟨q2, f2⟩ : ∃ q, decide ((57 : Int) < x) = q := ⟨_, rfl⟩
          obtain ⟨q3, f3⟩ : ∃ q, (x != 58) = q := ⟨_, rfl⟩
          obtain ⟨q4, f4⟩ : ∃ q, (x != 45) = q := ⟨_, rfl⟩
          obtain ⟨q5, f5⟩ : ∃ q, (x != 95) = q := ⟨_, rfl⟩
          rw [f1, f2, f3, f4, f5] at HB
          have HBM := Lib.hid HB
          clear a1 HB HBN hnb
          rcases hr with r1 | ⟨r1, r2⟩ | r1
          · have r3 : ¬ (97 : Int) ≤ x := by omega
            have r4 : ¬ (65 : Int) ≤ x := by omega
            have g5 : q5 = true := by rw [← f5]; simp; omega
            rw [hx] at r1 r3 r4 f1 f2 f3 f4 f5
            subst g5
            clear hx HX
            cases q1 <;> cases q2 <;> cases q3 <;> cases q4 <;> first
                | (have HT : Hid (Xm.nameByte s[k] = true) := Lib.hid (HNB.out.trans HBM.out)
                   go_wp2
                   go_round
                   case rel =>
                     refine ⟨k + 1, by omega, by go_num, fun j hj hjk => ?_, fun hj _ => HFST.out hj (by have := HK0.out; omega)⟩
                     by_cases e : j = k
                     · subst e; exact HT.out
                     · exact HALL.out j hj (by omega)
                   case measure => simp [intOf]; omega)
                | (have HT : Hid (Xm.nameByte s[k] = false) := Lib.hid (HNB.out.trans HBM.out)
                   go_wp2
                   go_ret
                   refine ⟨ret_bool ?_, rfl⟩
                   have h : Xm.nameB s.data.toList = false := name_badAt (all_bad hlt HT.out)
                   rw [HSl.out] at h
                   exact h.symm)
          · have r3 : ¬ (97 : Int) ≤ x := by omega
            have r4 : (65 : Int) ≤ x := by omega
            have r5 : ¬ x ≤ 90 := by omega
            have g1 : q1 = false := by rw [← f1]; simp; omega
            have g2 : q2 = true := by rw [← f2]; simp; omega
            have g3 : q3 = true := by rw [← f3]; simp; omega
            have g4 : q4 = true := by rw [← f4]; simp; omega
            rw [hx] at r1 r2 r3 r4 r5 f1 f2 f3 f4 f5
            subst g1 g2 g3 g4
            clear hx HX
            cases q5 <;> first
                | (have HT : Hid (Xm.nameByte s[k] = true) := Lib.hid (HNB.out.trans HBM.out)
                   go_wp2
                   go_round
                   case rel =>
                     refine ⟨k + 1, by omega, by go_num, fun j hj hjk => ?_, fun hj _ => HFST.out hj (by have := HK0.out; omega)⟩
                     by_cases e : j = k
                     · subst e; exact HT.out
                     · exact HALL.out j hj (by omega)
                   case measure => simp [intOf]; omega)
                | (have HT : Hid (Xm.nameByte s[k] = false) := Lib.hid (HNB.out.trans HBM.out)
                   go_wp2
                   go_ret
                   refine ⟨ret_bool ?_, rfl⟩
                   have h : Xm.nameB s.data.toList = false := name_badAt (all_bad hlt HT.out)
                   rw [HSl.out] at h
                   exact h.symm)
          · have r3 : (97 : Int) ≤ x := by omega
            have r4 : ¬ x ≤ 122 := by omega
            have r5 : (65 : Int) ≤ x := by omega
            have r6 : ¬ x ≤ 90 := by omega
            have g1 : q1 = false := by rw [← f1]; simp; omega
            have g2 : q2 = true := by rw [← f2]; simp; omega
            have g3 : q3 = true := by rw [← f3]; simp; omega
            have g4 : q4 = true := by rw [← f4]; simp; omega
            have g5 : q5 = true := by rw [← f5]; simp; omega
            rw [hx] at r1 r3 r4 r5 r6 f1 f2 f3 f4 f5
            subst g1 g2 g3 g4 g5
            clear hx HX
            first
                | (have HT : Hid (Xm.nameByte s[k] = true) := Lib.hid (HNB.out.trans HBM.out)
                   go_wp2
                   go_round
                   case rel =>
                     refine ⟨k + 1, by omega, by go_num, fun j hj hjk => ?_, fun hj _ => HFST.out hj (by have := HK0.out; omega)⟩
                     by_cases e : j = k
                     · subst e; exact HT.out
                     · exact HALL.out j hj (by omega)
                   case measure => simp [intOf]; omega)
                | (have HT : Hid (Xm.nameByte s[k] = false) := Lib.hid (HNB.out.trans HBM.out)
                   go_wp2
                   go_ret
                   refine ⟨ret_bool ?_, rfl⟩
                   have h : Xm.nameB s.data.toList = false := name_badAt (all_bad hlt HT.out)
                   rw [HSl.out] at h
                   exact h.symm)
    · have HA : Hid (s.data.toList.all Xm.nameByte = true) := Lib.hid (all_of_get fun j hj => HALL.out j hj (by omega))
      by_cases h0 : s = ⟨#[]⟩
      · subst h0
        have HF : Hid (Xm.nameB l = false) := Lib.hid (by rw [← HSl.out]; rfl)
        go_wp2
        go_ret
        exact ⟨ret_bool HF.out.symm, rfl⟩
      · have h1 : s.toList.isEmpty = false := by
          rw [← S_eq s, S_list]
          cases hd : s.data.toList with
          | nil => exact absurd (by rw [← S_eq s, hd]; rfl) h0
          | cons a b => rfl
        have HF : Hid (Xm.nameB l = true) := Lib.hid (by
          have hp : 0 < s.size := Nat.pos_of_ne_zero (fun e => h0 (by
            apply ByteArray.ext
            exact Array.eq_empty_of_size_eq_zero e))
          have h : Xm.nameB s.data.toList = true := name_good HA.out hp (HFST.out hp (by omega))
          rwa [HSl.out] at h)
        go_wp2
        go_ret
        exact ⟨ret_bool HF.out.symm, rfl⟩
end Go.Proofs.YtpleaopefngafaaDoor
