/- What package request's Alike, isTarget, isText, number, Header and bodyLength answer, for any texts of at most 2^30 bytes and at most 1000 headers. -/
import Derived.Test.YtehgigfngelkjaaDoorQa
import Derived.Test.YtehgigfngelkjaaDoorShelf
import Derived.Shelf.Strings.SlTrimAscii
namespace Go.Proofs.YtehgigfngelkjaaDoor
set_option maxRecDepth 8000
open Go.RowKit
namespace Rq

theorem below_of_drewN {w w' : World} (h : ∃ n, w' = w.drewN n) : Below w.heap.size w w' := by
  obtain ⟨n, rfl⟩ := h
  exact below_drewN (Below.refl _ _) n

theorem alike_len {a b : List UInt8} (h : a.length ≠ b.length) : Req.alike a b = false := by
  unfold Req.alike
  refine decide_eq_false fun e => h ?_
  have := congrArg List.length e
  simpa using this

set_option maxHeartbeats 400000 in
theorem alike_s (s t : ByteArray) (w : World) (hs : s.size ≤ 1073741824) :
    Calls Tryd.prog 36 #[.string s, .string t] w fun e w' => e = .returned (.bool (Req.alike s.data.toList t.data.toList)) ∧ ∃ n, w' = w.drewN n := by
  by_cases hlen : s.size = t.size
  · have hne : ((s.size : Int) != (t.size : Int)) = false := by simp; omega
    have HL := Lib.hid hlen
    clear hlen
    go_enter Tryd.func36, Tryd.ntmps36
    go_wp2
    go_loopw [13] (fun i wr => ∃ k : Nat, k ≤ s.size ∧ i = .int .i64 k ∧ (∀ j (hj : j < s.size) (hj' : j < t.size), j < k → Req.low s[j] = Req.low t[j]) ∧ ∃ n, wr = w.drewN n) (fun i _ => s.size - (intOf i).toNat)
    case atStart => exact ⟨0, Nat.zero_le _, rfl, fun j _ _ hj => absurd hj (by omega), 0, rfl⟩
    case round =>
      obtain ⟨k, hk, rfl, hall, hn⟩ := hrel
      have HALL := Lib.hid hall
      have HW := Lib.hid hn
      clear hall hn
      by_cases hlt : k < s.size
      · have hlt' : k < t.size := by have := HL.out; omega
        have i0 : (0 : Int) ≤ (k : Int) := by omega
        have i1 : (k : Int) < (s.size : Int) := by omega
        have i2 : (k : Int) < (t.size : Int) := by omega
        by_cases he : Req.low s[k] = Req.low t[k]
        · have hb : (((Req.low s[k]).toNat : Int) != ((Req.low t[k]).toNat : Int)) = false := by rw [he]; simp
          have HE := Lib.hid he
          clear he
          go_wp2
          go_quiet ((go_at_call 49; exact Calls.quiet_of_same ((reqSmall_any _ _).mono fun _ _ ⟨h1, h2⟩ => ⟨h1, h2.symm⟩)))
          go_wp2
          go_roundw
          case rel =>
            refine ⟨k + 1, by omega, by go_num, fun j hj hj' hjk => ?_, ?_⟩
            · by_cases e : j = k
              · subst e; exact HE.out
              · exact HALL.out j hj hj' (by omega)
            · obtain ⟨n, rfl⟩ := HW.out
              exact ⟨_, World.drewN_drewN _ _ _⟩
          case measure => simp [intOf]; omega
        · have hb : (((Req.low s[k]).toNat : Int) != ((Req.low t[k]).toNat : Int)) = true := bne_iff_ne.2 fun e => he (Pct.u8_eq (by omega))
          have HF := Lib.hid (show Req.alike s.data.toList t.data.toList = false from decide_eq_false fun e => he (by
            have := congrArg (fun l => l[k]?) e
            simp only [List.getElem?_map] at this
            rw [Lib.data_getElem? s k hlt, Lib.data_getElem? t k hlt'] at this
            exact Option.some.inj this))
          clear he
          go_wp2
          go_quiet ((go_at_call 49; exact Calls.quiet_of_same ((reqSmall_any _ _).mono fun _ _ ⟨h1, h2⟩ => ⟨h1, h2.symm⟩)))
          go_wp2
          go_ret
          refine ⟨ret_bool HF.out.symm, ?_⟩
          obtain ⟨n, rfl⟩ := HW.out
          exact ⟨_, World.drewN_drewN _ _ _⟩
      · have HT := Lib.hid (show Req.alike s.data.toList t.data.toList = true from decide_eq_true (by
          have hl := HL.out
          apply List.ext_getElem?
          intro j
          rw [List.getElem?_map, List.getElem?_map]
          by_cases hj : j < s.size
          · rw [Lib.data_getElem? s j hj, Lib.data_getElem? t j (by omega)]
            exact congrArg some (HALL.out j hj (by omega) (by omega))
          · rw [List.getElem?_eq_none (by simp; omega), List.getElem?_eq_none (by simp; omega)]))
        go_wp2
        go_ret
        exact ⟨ret_bool HT.out.symm, HW.out⟩
  · have hne : ((s.size : Int) != (t.size : Int)) = true := by simp; omega
    have HF := Lib.hid (alike_len (a := s.data.toList) (b := t.data.toList) (by simpa using hlen))
    clear hlen
    go_enter Tryd.func36, Tryd.ntmps36
    go_wp2
    go_ret
    exact ⟨ret_bool HF.out.symm, 0, rfl⟩
theorem alike_any (a b : List UInt8) (w : World) (hs : a.length ≤ 1073741824) :
    Calls Tryd.prog 36 #[.string (S a), .string (S b)] w fun e w' => e = .returned (.bool (Req.alike a b)) ∧ ∃ n, w' = w.drewN n := alike_s (S a) (S b) w hs

theorem hasPrefix_47 (l : List UInt8) : Lib.hasPrefix l [47] = (l.head? == some 47) := by
  cases l with
  | nil => rfl
  | cons c r =>
    unfold Lib.hasPrefix
    simp [List.isPrefixOf]
    rw [Bool.eq_iff_iff, beq_iff_eq, beq_iff_eq]
    exact eq_comm
theorem isTarget_any (l : List UInt8) (w : World) (hs : l.length ≤ 1073741824) :
    Calls Tryd.prog 54 #[.string (S l)] w fun e w' => e = .returned (.bool (Req.isTarget l)) ∧ w = w' := by
  have H := Lib.hid (show Req.isTarget l = (Lib.hasPrefix l [47] && Req.within 33 126 l) by rw [hasPrefix_47]; rfl)
  have hP := fun w' => Tryd.strings_HasPrefix (S l) ⟨#[47]⟩ w'
  cases hp : Lib.hasPrefix l [47] with
  | true =>
    rw [show Lib.hasPrefix (S l).data.toList (⟨#[47]⟩ : ByteArray).data.toList = true from hp] at hP
    rw [hp] at H
    clear hp
    go_enter Tryd.func54, Tryd.ntmps54
    go_wp2_with (first
      | (go_at_call 73; refine (hP _).mono ?_; rintro e w' ⟨rfl, rfl⟩)
      | (go_at_call 72; refine (within_any l 33 126 33 126 _ hs rfl rfl).mono ?_; rintro e w' ⟨rfl, rfl⟩))
    go_ret
    exact ⟨ret_bool H.out.symm, rfl⟩
  | false =>
    rw [show Lib.hasPrefix (S l).data.toList (⟨#[47]⟩ : ByteArray).data.toList = false from hp] at hP
    rw [hp] at H
    clear hp
    go_enter Tryd.func54, Tryd.ntmps54
    go_wp2_with (go_at_call 73; refine (hP _).mono ?_; rintro e w' ⟨rfl, rfl⟩)
    go_ret
    exact ⟨ret_bool H.out.symm, rfl⟩

theorem trim_one (l : List UInt8) (w : World) (hs : l.length ≤ 1073741824) :
    Calls Tryd.prog 48 #[.string (S l), .string ⟨#[32]⟩] w fun e w' => e = .returned (.string (S (Lib.trimS l [32]))) ∧ Below w.heap.size w w' := by
  have hz : (S l).size = l.length := rfl
  refine (Tryd.strings_Trim_one (S l) 32 (by decide) w (by omega)).mono fun e w' ⟨he, hw⟩ => ⟨?_, ?_⟩
  · rw [he, Lib.trimS_one]; rfl
  · rcases hw with rfl | rfl
    · exact Below.refl _ _
    · exact below_drewN (Below.refl _ _) 1
theorem trim_two (l : List UInt8) (w : World) (hs : l.length ≤ 1073741824) :
    Calls Tryd.prog 48 #[.string (S l), .string ⟨#[32, 9]⟩] w fun e w' => e = .returned (.string (S (Req.trim l))) ∧ Below w.heap.size w w' := by
  have hz : (S l).size = l.length := rfl
  exact Any.strings_Trim_laid Tryd.lays160 (by kernel_rfl) (S l) ⟨#[32, 9]⟩ w (by omega) (by decide) (ascii_of_all (by decide))

theorem isText_any (l : List UInt8) (w : World) (hs : l.length ≤ 1073741824) :
    Calls Tryd.prog 75 #[.string (S l)] w fun e w' => e = .returned (.bool (Req.isText l)) ∧ Below w.heap.size w w' := by
  have hS := S_list
  have H := Lib.hid (show Req.isText l = (Req.within 32 126 l && (Lib.trimS l [32] == l)) from rfl)
  have hW := fun w' => within_any l 32 126 32 126 w' hs rfl rfl
  have hT := fun w' => trim_one l w' hs
  obtain ⟨x, hx⟩ : ∃ x, x = Lib.trimS l [32] := ⟨_, rfl⟩
  rw [← hx] at H hT
  clear hx
  cases hp : Req.within 32 126 l with
  | true =>
    rw [hp] at H hW
    clear hp
    go_enter Tryd.func75, Tryd.ntmps75
    go_wp2_with (first
      | (go_at_call 72; refine (hW _).mono ?_; rintro e w' ⟨rfl, rfl⟩)
      | (go_at_call 48; refine (hT _).mono ?_; rintro e w' ⟨rfl, hb⟩))
    go_ret
    exact ⟨ret_bool H.out.symm, hb⟩
  | false =>
    rw [hp] at H hW
    clear hp
    go_enter Tryd.func75, Tryd.ntmps75
    go_wp2_with (go_at_call 72; refine (hW _).mono ?_; rintro e w' ⟨rfl, rfl⟩)
    go_ret
    exact ⟨ret_bool H.out.symm, Below.refl _ _⟩
end Rq
end Go.Proofs.YtehgigfngelkjaaDoor
