/- What package response's isToken and isText and package request's Alike answer, for any texts of at most 2^30 bytes. -/
import Derived.Test.YtehgigfngelkjaaDoorCb
import Derived.Test.YtehgigfngelkjaaDoorCkPure
import Derived.Test.YtehgigfngelkjaaDoorReqPure
import Derived.Test.YtehgigfngelkjaaDoorShelf
import Derived.Shelf.Strings.SlTrimAscii
namespace Go.Proofs.YtehgigfngelkjaaDoor
set_option maxRecDepth 8000
open Go.RowKit

def toksS : ByteArray := S Ck.toks
theorem trim_toks (l : List UInt8) (w : World) (hs : l.length ≤ 1073741824) :
    Calls Tryd.prog 48 #[.string (S l), .string toksS] w fun e w' => e = .returned (.string (S (Lib.trimS l Ck.toks))) ∧ Below w.heap.size w w' := by
  have hz : (S l).size = l.length := rfl
  exact Any.strings_Trim_laid Tryd.lays160 (by kernel_rfl) (S l) toksS w (by omega) (by decide +kernel) (ascii_of_all (by decide +kernel))
theorem trim_one (l : List UInt8) (w : World) (hs : l.length ≤ 1073741824) :
    Calls Tryd.prog 48 #[.string (S l), .string ⟨#[32]⟩] w fun e w' => e = .returned (.string (S (Ck.trim l))) ∧ Below w.heap.size w w' := by
  have hz : (S l).size = l.length := rfl
  refine (Tryd.strings_Trim_one (S l) 32 (by decide) w (by omega)).mono fun e w' ⟨he, hw⟩ => ⟨?_, ?_⟩
  · rw [he]
    unfold Ck.trim
    rw [Lib.trimS_one]; rfl
  · rcases hw with rfl | rfl
    · exact Below.refl _ _
    · exact below_drewN (Below.refl _ _) 1
set_option maxHeartbeats 400000 in
set_option maxRecDepth 100000 in
theorem isToken_any (l : List UInt8) (w : World) (hs : l.length ≤ 1073741824) :
    Calls Tryd.prog 34 #[.string (S l)] w fun e w' => e = .returned (.bool (Ck.token l)) ∧ Below w.heap.size w w' := by
  have HK := Lib.hid (Ck.token_trim l)
  have hT := fun w' => trim_toks l w' hs
  have hE := S_empty l
  obtain ⟨x, hx⟩ : ∃ x, x = Lib.trimS l Ck.toks := ⟨_, rfl⟩
  rw [← hx] at HK hT
  clear hx
  have hX := S_empty x
  cases hl : l.isEmpty with
  | true =>
    rw [hl] at HK hE
    go_enter Tryd.func34, Tryd.ntmps34
    go_wp2
    go_ret
    exact ⟨ret_bool HK.out.symm, Below.refl _ _⟩
  | false =>
    rw [hl] at HK hE
    go_enter Tryd.func34, Tryd.ntmps34
    go_wp2_with (go_at_call 48; refine (hT _).mono ?_; rintro e w' ⟨rfl, hb⟩)
    go_ret
    exact ⟨ret_bool (by rw [HK.out]; rfl), hb⟩

theorem low_add (c : UInt8) (h1 : 65 ≤ c.toNat) (h2 : c.toNat ≤ 90) : (Req.low c).toNat = c.toNat + 32 := by
  have := Req.byte_all (P := fun c => !(decide (65 ≤ c.toNat ∧ c.toNat ≤ 90)) || (Req.low c).toNat == c.toNat + 32) (by decide +kernel) c
  simp [h1, h2] at this
  exact this
theorem low_same (c : UInt8) (h : ¬ (65 ≤ c.toNat ∧ c.toNat ≤ 90)) : Req.low c = c := by unfold Req.low; rw [if_neg h]

set_option maxHeartbeats 400000 in
theorem reqSmall_any (c : UInt8) (w : World) :
    Calls Tryd.prog 49 #[B c] w fun e w' => e = .returned (B (Req.low c)) ∧ w = w' := by
  have hb8 := Pct.u8_lt c
  by_cases h : 65 ≤ c.toNat ∧ c.toNat ≤ 90
  · obtain ⟨h1, h2⟩ := h
    have HL := Lib.hid (low_add c h1 h2)
    go_enter Tryd.func49, Tryd.ntmps49
    go_wp2
    go_ret
    refine ⟨?_, rfl⟩
    unfold B
    rw [HL.out]
    simp
    omega
  · have HL := Lib.hid (low_same c h)
    go_enter Tryd.func49, Tryd.ntmps49
    go_wp2
    all_goals first
      | (go_ret
         exact ⟨by rw [HL.out]; rfl, rfl⟩)
      | (exfalso; omega)

theorem alike_len {a b : List UInt8} (h : a.length ≠ b.length) : Req.alike a b = false := by
  unfold Req.alike
  refine decide_eq_false fun e => h ?_
  have := congrArg List.length e
  simpa using this
set_option maxHeartbeats 400000 in
theorem alike_s (s t : ByteArray) (w : World) (hs : s.size ≤ 1073741824) :
    Calls Tryd.prog 36 #[.string s, .string t] w fun e w' => e = .returned (.bool (Req.alike s.data.toList t.data.toList)) ∧ ∃ n, w' = w.drewN n := by
  by_cases hlen : s.size = t.size
  · have hne : ((s.size : Int) != (t.size : Int)) = false := by simp; omega
    have HL := Lib.hid hlen
    clear hlen
    go_enter Tryd.func36, Tryd.ntmps36
    go_wp2
    go_loopw [13] (fun i wr => ∃ k : Nat, k ≤ s.size ∧ i = .int .i64 k ∧ (∀ j (hj : j < s.size) (hj' : j < t.size), j < k → Req.low s[j] = Req.low t[j]) ∧ ∃ n, wr = w.drewN n) (fun i _ => s.size - (intOf i).toNat)
    case atStart => exact ⟨0, Nat.zero_le _, rfl, fun j _ _ hj => absurd hj (by omega), 0, rfl⟩
    case round =>
      obtain ⟨k, hk, rfl, hall, hn⟩ := hrel
      have HALL := Lib.hid hall
      have HW := Lib.hid hn
      clear hall hn
      by_cases hlt : k < s.size
      · have hlt' : k < t.size := by have := HL.out; omega
        have i0 : (0 : Int) ≤ (k : Int) := by omega
        have i1 : (k : Int) < (s.size : Int) := by omega
        have i2 : (k : Int) < (t.size : Int) := by omega
        by_cases he : Req.low s[k] = Req.low t[k]
        · have hb : (((Req.low s[k]).toNat : Int) != ((Req.low t[k]).toNat : Int)) = false := by rw [he]; simp
          have HE := Lib.hid he
          clear he
          go_wp2
          go_quiet ((go_at_call 49; exact Calls.quiet_of_same ((reqSmall_any _ _).mono fun _ _ ⟨h1, h2⟩ => ⟨h1, h2.symm⟩)))
          go_wp2
          go_roundw
          case rel =>
            refine ⟨k + 1, by omega, by go_num, fun j hj hj' hjk => ?_, ?_⟩
            · by_cases e : j = k
              · subst e; exact HE.out
              · exact HALL.out j hj hj' (by omega)
            · obtain ⟨n, rfl⟩ := HW.out
              exact ⟨_, World.drewN_drewN _ _ _⟩
          case measure => simp [intOf]; omega
        · have hb : (((Req.low s[k]).toNat : Int) != ((Req.low t[k]).toNat : Int)) = true := bne_iff_ne.2 fun e => he (Pct.u8_eq (by omega))
          have HF := Lib.hid (show Req.alike s.data.toList t.data.toList = false from decide_eq_false fun e => he (by
            have := congrArg (fun l => l[k]?) e
            simp only [List.getElem?_map] at this
            rw [Lib.data_getElem? s k hlt, Lib.data_getElem? t k hlt'] at this
            exact Option.some.inj this))
          clear he
          go_wp2
          go_quiet ((go_at_call 49; exact Calls.quiet_of_same ((reqSmall_any _ _).mono fun _ _ ⟨h1, h2⟩ => ⟨h1, h2.symm⟩)))
          go_wp2
          go_ret
          refine ⟨ret_bool HF.out.symm, ?_⟩
          obtain ⟨n, rfl⟩ := HW.out
          exact ⟨_, World.drewN_drewN _ _ _⟩
      · have HT := Lib.hid (show Req.alike s.data.toList t.data.toList = true from decide_eq_true (by
          have hl := HL.out
          apply List.ext_getElem?
          intro j
          rw [List.getElem?_map, List.getElem?_map]
          by_cases hj : j < s.size
          · rw [Lib.data_getElem? s j hj, Lib.data_getElem? t j (by omega)]
            exact congrArg some (HALL.out j hj (by omega) (by omega))
          · rw [List.getElem?_eq_none (by simp; omega), List.getElem?_eq_none (by simp; omega)]))
        go_wp2
        go_ret
        exact ⟨ret_bool HT.out.symm, HW.out⟩
  · have hne : ((s.size : Int) != (t.size : Int)) = true := by simp; omega
    have HF := Lib.hid (alike_len (a := s.data.toList) (b := t.data.toList) (by simpa using hlen))
    clear hlen
    go_enter Tryd.func36, Tryd.ntmps36
    go_wp2
    go_ret
    exact ⟨ret_bool HF.out.symm, 0, rfl⟩
theorem alike_any (a b : List UInt8) (w : World) (hs : a.length ≤ 1073741824) :
    Calls Tryd.prog 36 #[.string (S a), .string (S b)] w fun e w' => e = .returned (.bool (Req.alike a b)) ∧ ∃ n, w' = w.drewN n := alike_s (S a) (S b) w hs


set_option maxHeartbeats 400000 in
theorem isText_any (l : List UInt8) (w : World) (hs : l.length ≤ 1073741824) :
    Calls Tryd.prog 35 #[.string (S l)] w fun e w' => e = .returned (.bool (Req.isText l)) ∧ Below w.heap.size w w' := by
  have H := Lib.hid (show Req.isText l = (Req.within 32 126 l && (Lib.trimS l [32] == l)) from rfl)
  have hT : ∀ w' : World, Calls Tryd.prog 48 #[.string (S l), .string ⟨#[32]⟩] w' fun e w'' => e = .returned (.string (S (Lib.trimS l [32]))) ∧ Below w'.heap.size w' w'' := fun w' => trim_one l w' hs
  obtain ⟨x, hx⟩ : ∃ x, x = Lib.trimS l [32] := ⟨_, rfl⟩
  rw [← hx] at H hT
  clear hx
  have hQ : ((S x).toList == (S l).toList) = (x == l) := by rw [S_list, S_list]
  have HQ := Lib.hid hQ
  clear hQ
  have HSl := Lib.hid (show (S l).data.toList = l from S_toList l)
  obtain ⟨s, hs'⟩ : ∃ s, s = S l := ⟨_, rfl⟩
  have hz : s.size ≤ 1073741824 := by rw [hs']; exact hs
  rw [← hs'] at hT HQ HSl ⊢
  clear hs' hs
  go_enter Tryd.func35, Tryd.ntmps35
  go_wp2
  go_loop [6] (fun i => ∃ k : Nat, k ≤ s.size ∧ i = .int .i64 k ∧ ∀ j (hj : j < s.size), j < k → Req.inB 32 126 s[j] = true) (fun i => s.size - (intOf i).toNat)
  case atStart => exact ⟨0, Nat.zero_le _, rfl, fun j _ hj => absurd hj (by omega)⟩
  case round =>
    obtain ⟨k, hk, rfl, hall⟩ := hrel
    have HALL := Lib.hid hall
    clear hall
    by_cases hlt : k < s.size
    · cases hok : Req.inB 32 126 s[k] with
      | true =>
        have hd := of_decide_eq_true hok
        have HT := Lib.hid hok
        clear hok
        have q1 : 32 ≤ s[k].toNat := hd.1
        have q2 : s[k].toNat ≤ 126 := hd.2
        clear hd
        go_wp2
        go_round
        case rel =>
          refine ⟨k + 1, by omega, by go_num, fun j hj hjk => ?_⟩
          by_cases e : j = k
          · subst e; exact HT.out
          · exact HALL.out j hj (by omega)
        case measure => simp [intOf]; omega
      | false =>
        have HF := Lib.hid (show Req.isText l = false by
          rw [H.out, ← HSl.out, show Req.within 32 126 s.data.toList = false from all_bad hlt hok, Bool.false_and])
        have HD := Lib.hid (of_decide_eq_false hok)
        clear hok
        go_wp2
        all_goals first
          | (go_ret
             exact ⟨ret_bool HF.out.symm, Below.refl _ _⟩)
          | (exfalso
             have := HD.out
             omega)
    · have HT := Lib.hid (show Req.isText l = ((S x).toList == s.toList) by
        rw [H.out, HQ.out, show Req.within 32 126 l = true by rw [← HSl.out]; exact all_of_get fun j hj => HALL.out j hj (by omega), Bool.true_and])
      go_wp2_with (go_at_call 48; refine (hT _).mono ?_; rintro e w' ⟨rfl, hb⟩)
      go_ret
      exact ⟨ret_bool HT.out.symm, hb⟩
end Go.Proofs.YtehgigfngelkjaaDoor
