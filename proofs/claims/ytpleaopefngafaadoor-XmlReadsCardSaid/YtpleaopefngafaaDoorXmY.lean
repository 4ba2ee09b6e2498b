/- Whether a text is a name: isName of package xml; for texts of at most 2^30 bytes. -/
import Derived.Test.YtpleaopefngafaaDoorXmX
namespace Go.Proofs.YtpleaopefngafaaDoor
set_option maxRecDepth 8000
open Go.RowKit

abbrev lettersL : List UInt8 := [97, 98, 99, 100, 101, 102, 103, 104, 105, 106, 107, 108, 109, 110, 111, 112, 113, 114, 115, 116, 117, 118, 119, 120, 121, 122, 65, 66, 67, 68, 69, 70, 71, 72, 73, 74, 75, 76, 77, 78, 79, 80, 81, 82, 83, 84, 85, 86, 87, 88, 89, 90]
abbrev namesL : List UInt8 := [97, 98, 99, 100, 101, 102, 103, 104, 105, 106, 107, 108, 109, 110, 111, 112, 113, 114, 115, 116, 117, 118, 119, 120, 121, 122, 65, 66, 67, 68, 69, 70].append [71, 72, 73, 74, 75, 76, 77, 78, 79, 80, 81, 82, 83, 84, 85, 86, 87, 88, 89, 90, 48, 49, 50, 51, 52, 53, 54, 55, 56, 57, 58, 45, 95]
theorem letters_all : ∀ n : Nat, n < 256 → (decide (0 ≤ Lib.indexByte lettersL (UInt8.ofNat n)) == Xm.letterB (UInt8.ofNat n)) = true := by decide +kernel
theorem letters_is (c : UInt8) : decide (0 ≤ Lib.indexByte lettersL c) = Xm.letterB c := by
  simpa using Xm.byte_all (P := fun c => decide (0 ≤ Lib.indexByte lettersL c) == Xm.letterB c) letters_all c
theorem names_all : ∀ n : Nat, n < 256 → (namesL.contains (UInt8.ofNat n) == Xm.nameByte (UInt8.ofNat n)) = true := by decide +kernel
theorem names_is (c : UInt8) : namesL.contains c = Xm.nameByte c := by
  simpa using Xm.byte_all (P := fun c => namesL.contains c == Xm.nameByte c) names_all c
theorem drop_nil {p : UInt8 → Bool} : ∀ l : List UInt8, l.dropWhile p = [] ↔ l.all p = true
  | [] => by simp
  | c :: l => by
    rw [List.dropWhile_cons, List.all_cons]
    cases h : p c with
    | true => simp [drop_nil l]
    | false => simp
theorem trim_nil (l : List UInt8) : Lib.trimS l namesL = [] ↔ l.all Xm.nameByte = true := by
  have hp : (fun c => namesL.contains c) = Xm.nameByte := funext names_is
  unfold Lib.trimS Lib.trimLeftS Lib.trimRightS
  rw [hp, drop_nil]
  constructor
  · intro h
    have h2 : l.all Xm.nameByte = true := by
      rw [List.all_eq_true] at h ⊢
      intro x hx
      by_cases hd : x ∈ (l.reverse.dropWhile Xm.nameByte).reverse
      · exact h x hd
      · have h3 : x ∈ l.reverse.takeWhile Xm.nameByte := by
          have : x ∈ l.reverse.takeWhile Xm.nameByte ++ l.reverse.dropWhile Xm.nameByte := by
            rw [List.takeWhile_append_dropWhile]; simpa using hx
          rcases List.mem_append.1 this with h3 | h3
          · exact h3
          · exact absurd (by simpa using h3) hd
        exact List.all_eq_true.1 (List.all_takeWhile (l := l.reverse) (p := Xm.nameByte)) x h3
    exact h2
  · intro h
    rw [List.all_eq_true] at h ⊢
    intro x hx
    have : x ∈ l.reverse := (List.dropWhile_sublist _).subset (by simpa using hx)
    exact h x (by simpa using this)
theorem index_letters (c : UInt8) (w : World) :
    Calls Tryd.prog 35 #[.string ⟨lettersL.toArray⟩, B c] w fun e w' => (∃ z : Int, e = .returned (.int .i64 z) ∧ decide (0 ≤ z) = Xm.letterB c) ∧ w = w' := by
  refine (Tryd.strings_IndexByte ⟨lettersL.toArray⟩ (c.toNat : Int) w).mono ?_
  rintro e w' ⟨rfl, rfl⟩
  refine ⟨⟨_, rfl, ?_⟩, rfl⟩
  have e1 : ((c.toNat : Int).toNat.toUInt8) = c := by simp
  rw [e1]
  exact letters_is c
theorem trim_names (l : List UInt8) (w : World) (hs : l.length ≤ 9223372036854775807) :
    Calls Tryd.prog 42 #[.string (S l), .string ⟨namesL.toArray⟩] w fun e w' => e = .returned (.string (S (Lib.trimS l namesL))) ∧ Below w.heap.size w w' :=
  Any.strings_Trim_laid Tryd.lays160 (by kernel_rfl) (S l) ⟨namesL.toArray⟩ w hs (by decide) (ascii_of_all (by decide))
theorem nameB_cons (c : UInt8) (r : List UInt8) : Xm.nameB (c :: r) = (Xm.letterB c && (c :: r).all Xm.nameByte) := by
  show (Xm.letterB c && r.all Xm.nameByte) = (Xm.letterB c && (Xm.nameByte c && r.all Xm.nameByte))
  cases h : Xm.letterB c with
  | false => rfl
  | true =>
    have : Xm.nameByte c = true := by unfold Xm.nameByte; rw [h]; rfl
    rw [this]; rfl

set_option maxHeartbeats 2000000 in
theorem isName_any (l : List UInt8) (w : World) (hs : l.length ≤ 9223372036854775807) :
    Calls Tryd.prog 29 #[.string (S l)] w fun e w' => e = .returned (.bool (Xm.nameB l)) ∧ Below w.heap.size w w' := by
  cases l with
  | nil =>
    show Calls _ _ #[.string ⟨#[]⟩] w _
    go_enter Tryd.func29, Tryd.ntmps29
    go_wp2_with fail
    go_ret
    exact ⟨rfl, Below.refl _ _⟩
  | cons c r =>
    have HR := Lib.hid (nameB_cons c r)
    have hT := trim_names (c :: r)
    have HTN := Lib.hid (trim_nil (c :: r))
    obtain ⟨x, hx⟩ : ∃ x, x = Lib.trimS (c :: r) namesL := ⟨_, rfl⟩
    rw [← hx] at hT HTN
    have HT : Hid (∀ w : World, Calls Tryd.prog 42 #[.string (S (c :: r)), .string ⟨namesL.toArray⟩] w fun e w' => e = .returned (.string (S x)) ∧ Below w.heap.size w w') := Lib.hid (fun w => hT w hs)
    have hne1 : (S (c :: r)).toList.isEmpty = false := by rw [S_list]; rfl
    have hne2 : ((S (c :: r)).toList == []) = false := by rw [S_list]; rfl
    obtain ⟨b, hb⟩ : ∃ b, (c :: r).all Xm.nameByte = b := ⟨_, rfl⟩
    rw [hb] at HTN
    have HR2 : Hid (Xm.nameB (c :: r) = (Xm.letterB c && b)) := Lib.hid (by rw [HR.out, hb])
    clear hx hT hb
    obtain ⟨s, hs'⟩ : ∃ s, s = S (c :: r) := ⟨_, rfl⟩
    have hz0 : 0 < s.size := by rw [hs']; show 0 < (c :: r).length; simp
    have hidx : s[0]'hz0 = c := by subst hs'; rfl
    simp only [← hs'] at HT hne1 hne2 ⊢
    obtain ⟨L, hL⟩ : ∃ L, L = Xm.letterB c := ⟨_, rfl⟩
    have HI : Hid (∀ w : World, Calls Tryd.prog 35 #[.string ⟨lettersL.toArray⟩, B c] w fun e w' => (∃ z : Int, e = .returned (.int .i64 z) ∧ decide (0 ≤ z) = L) ∧ w = w') := Lib.hid (fun w => by rw [hL]; exact index_letters c w)
    rw [← hL] at HR2
    clear hL hs' hs HR
    cases L with
    | false =>
      go_enter Tryd.func29, Tryd.ntmps29
      go_wp2_with fail
      refine (HI.out _).mono ?_
      rintro e w' ⟨⟨z, rfl, hz⟩, rfl⟩
      go_wp2_with fail
      go_ret
      exact ⟨by rw [HR2.out]; rfl, Below.refl _ _⟩
    | true =>
      go_enter Tryd.func29, Tryd.ntmps29
      go_wp2_with fail
      refine (HI.out _).mono ?_
      rintro e w' ⟨⟨z, rfl, hz⟩, rfl⟩
      go_wp2_with fail
      refine (HT.out _).mono ?_
      rintro e w1 ⟨rfl, hb1⟩
      cases b with
      | true =>
        have hx : x = [] := HTN.out.2 rfl
        subst hx
        have hq : (S ([] : List UInt8)).toList = [] := S_list []
        go_wp2_with fail
        go_ret
        exact ⟨by rw [HR2.out]; rfl, hb1⟩
      | false =>
        have hx : x ≠ [] := fun h => by have := HTN.out.1 h; cases this
        have hq1 : (S x).toList.isEmpty = false := by rw [S_list]; simpa using hx
        have hq2 : ((S x).toList == []) = false := by rw [S_list]; simpa using hx
        clear hx
        go_wp2_with fail
        go_ret
        exact ⟨by rw [HR2.out]; rfl, hb1⟩
end Go.Proofs.YtpleaopefngafaaDoor
