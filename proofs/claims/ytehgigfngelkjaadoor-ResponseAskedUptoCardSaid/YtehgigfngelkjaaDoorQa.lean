/- What package request's within, isMethod, isKnown, isToken, small and Alike answer, for any texts of at most 2^30 bytes. -/
import Derived.Test.YtehgigfngelkjaaDoorEr
import Derived.Test.YtehgigfngelkjaaDoorShelf
namespace Go.Proofs.YtehgigfngelkjaaDoor
set_option maxRecDepth 8000
open Go.RowKit
namespace Rq

set_option maxHeartbeats 400000 in
theorem plain_any (c : UInt8) (w : World) :
    Calls Tryd.prog 95 #[B c] w fun e w' => e = .returned (.bool (Pct.plainB c)) ∧ w = w' := by
  go_enter Tryd.func95, Tryd.ntmps95
  go_wp2
  all_goals
    go_ret
    refine ⟨ret_bool ?_, rfl⟩
    unfold Pct.plainB
    rw [Bool.eq_iff_iff]
    simp
    omega

theorem all_of_get {s : ByteArray} {p : UInt8 → Bool} (h : ∀ j (hj : j < s.size), p s[j] = true) : s.data.toList.all p = true :=
  List.all_eq_true.2 fun x hx => by
    obtain ⟨j, hj, rfl⟩ := List.getElem_of_mem hx
    exact h j (by simpa using hj)
theorem all_bad {s : ByteArray} {p : UInt8 → Bool} {k : Nat} (hk : k < s.size) (h : p s[k] = false) : s.data.toList.all p = false :=
  List.all_eq_false.2 ⟨s[k], List.mem_of_getElem? (Lib.data_getElem? s k hk), by rw [h]; simp⟩

set_option maxHeartbeats 400000 in
theorem within_s (s : ByteArray) (lo hi : Nat) (w : World) (hs : s.size ≤ 1073741824) :
    Calls Tryd.prog 72 #[.string s, .int .u8 (lo : Int), .int .u8 (hi : Int)] w fun e w' => e = .returned (.bool (Req.within lo hi s.data.toList)) ∧ w = w' := by
  go_enter Tryd.func72, Tryd.ntmps72
  go_wp2
  go_loop [10] (fun i => ∃ k : Nat, k ≤ s.size ∧ i = .int .i64 k ∧ ∀ j (hj : j < s.size), j < k → Req.inB lo hi s[j] = true) (fun i => s.size - (intOf i).toNat)
  case atStart => exact ⟨0, Nat.zero_le _, rfl, fun j _ hj => absurd hj (by omega)⟩
  case round =>
    obtain ⟨k, hk, rfl, hall⟩ := hrel
    have HALL := Lib.hid hall
    clear hall
    by_cases hlt : k < s.size
    · cases hok : Req.inB lo hi s[k] with
      | true =>
        have hd := of_decide_eq_true hok
        have HT := Lib.hid hok
        clear hok
        have q1 : lo ≤ s[k].toNat := hd.1
        have q2 : s[k].toNat ≤ hi := hd.2
        clear hd
        go_wp2
        go_round
        case rel =>
          refine ⟨k + 1, by omega, by go_num, fun j hj hjk => ?_⟩
          by_cases e : j = k
          · subst e; exact HT.out
          · exact HALL.out j hj (by omega)
        case measure => simp [intOf]; omega
      | false =>
        have HF := Lib.hid (show Req.within lo hi s.data.toList = false from all_bad hlt hok)
        have HD := Lib.hid (of_decide_eq_false hok)
        clear hok
        go_wp2
        all_goals first
          | (go_ret
             exact ⟨ret_bool HF.out.symm, rfl⟩)
          | (exfalso
             have := HD.out
             omega)
    · have HT := Lib.hid (show Req.within lo hi s.data.toList = true from all_of_get fun j hj => HALL.out j hj (by omega))
      go_wp2
      go_ret
      exact ⟨ret_bool HT.out.symm, rfl⟩

theorem within_any (l : List UInt8) (lo hi : Nat) (a b : Int) (w : World) (hs : l.length ≤ 1073741824) (ha : a = lo) (hb : b = hi) :
    Calls Tryd.prog 72 #[.string (S l), .int .u8 a, .int .u8 b] w fun e w' => e = .returned (.bool (Req.within lo hi l)) ∧ w = w' := by
  subst ha hb
  exact within_s (S l) lo hi w hs

theorem isMethod_any (l : List UInt8) (w : World) (hs : l.length ≤ 1073741824) :
    Calls Tryd.prog 53 #[.string (S l)] w fun e w' => e = .returned (.bool (Req.isMethod l)) ∧ w = w' := by
  have hS := S_list
  cases l with
  | nil =>
    go_enter Tryd.func53, Tryd.ntmps53
    go_wp2
    go_ret
    exact ⟨rfl, rfl⟩
  | cons c r =>
    have H := Lib.hid (show Req.isMethod (c :: r) = Req.within 65 90 (c :: r) from rfl)
    have h0 : (c :: r).isEmpty = false := rfl
    have h1 : (S (c :: r)).toList.isEmpty = false := by rw [S_list]; rfl
    clear hS
    obtain ⟨l, hl⟩ : ∃ l, l = c :: r := ⟨_, rfl⟩
    rw [← hl] at H h0 h1 hs ⊢
    clear hl
    go_enter Tryd.func53, Tryd.ntmps53
    go_wp2_with (go_at_call 72; refine (within_any l 65 90 65 90 _ hs rfl rfl).mono ?_; rintro e w' ⟨rfl, rfl⟩)
    go_ret
    exact ⟨ret_bool H.out.symm, rfl⟩

theorem isKnown_any (l : List UInt8) (w : World) :
    Calls Tryd.prog 55 #[.string (S l)] w fun e w' => e = .returned (.bool (Req.known l)) ∧ w = w' := by
  have hS := S_list
  have H := Lib.hid (show Req.known l = (l == Req.get || l == Req.post) from rfl)
  by_cases h : l = Req.get
  · subst h
    go_enter Tryd.func55, Tryd.ntmps55
    go_wp2
    go_ret
    exact ⟨rfl, rfl⟩
  · have h1 : (l == [71, 69, 84]) = false := beq_eq_false_iff_ne.2 h
    have HB := Lib.hid (show Req.known l = (l == [80, 79, 83, 84]) by
      rw [H.out, show (l == Req.get) = false from h1, Bool.false_or]
      rfl)
    clear h H
    go_enter Tryd.func55, Tryd.ntmps55
    go_wp2
    go_ret
    exact ⟨ret_bool HB.out.symm, rfl⟩

theorem u8_ne {a : UInt8} {n : Int} (b : UInt8) (hb : (b.toNat : Int) = n) (h : a ≠ b) : ((a.toNat : Int) == n) = false :=
  beq_eq_false_iff_ne.2 fun e => h (Pct.u8_eq (by omega))

set_option maxHeartbeats 400000 in
theorem isToken_s (s : ByteArray) (w : World) (hs : s.size ≤ 1073741824) :
    Calls Tryd.prog 74 #[.string s] w fun e w' => e = .returned (.bool (Req.token s.data.toList)) ∧ w = w' := by
  have HE := Lib.hid (show s.toList.isEmpty = s.data.toList.isEmpty by rw [Lib.toList_data])
  go_enter Tryd.func74, Tryd.ntmps74
  go_wp2
  go_loop [6] (fun i => ∃ k : Nat, k ≤ s.size ∧ i = .int .i64 k ∧ ∀ j (hj : j < s.size), j < k → Req.tokB s[j] = true) (fun i => s.size - (intOf i).toNat)
  case atStart => exact ⟨0, Nat.zero_le _, rfl, fun j _ hj => absurd hj (by omega)⟩
  case round =>
    obtain ⟨k, hk, rfl, hall⟩ := hrel
    have HALL := Lib.hid hall
    clear hall
    by_cases hlt : k < s.size
    · have HP := Lib.hid (Req.tok_plain s[k])
      have HB := Lib.hid (show Req.tokB s[k] = false → Req.token s.data.toList = false from fun h => by unfold Req.token; rw [all_bad hlt h]; simp)
      by_cases hp : Pct.plainB s[k] = true
      · by_cases h46 : s[k] = 46
        · have e0 : ((s[k].toNat : Int) == 46) = true := by rw [h46]; rfl
          have HF := Lib.hid (HB.out (by rw [HP.out, h46]; rfl))
          clear h46
          go_wp2_with (go_at_call 95; refine (plain_any _ _).mono ?_; rintro e w' ⟨rfl, rfl⟩; rw [hp])
          go_ret
          exact ⟨ret_bool HF.out.symm, rfl⟩
        · have e0 := u8_ne (n := 46) 46 rfl h46
          by_cases h95 : s[k] = 95
          · have e1 : ((s[k].toNat : Int) == 95) = true := by rw [h95]; rfl
            have HF := Lib.hid (HB.out (by rw [HP.out, h95]; rfl))
            clear h95 h46
            go_wp2_with (go_at_call 95; refine (plain_any _ _).mono ?_; rintro e w' ⟨rfl, rfl⟩; rw [hp])
            go_ret
            exact ⟨ret_bool HF.out.symm, rfl⟩
          · have e1 := u8_ne (n := 95) 95 rfl h95
            by_cases h126 : s[k] = 126
            · have e2 : ((s[k].toNat : Int) == 126) = true := by rw [h126]; rfl
              have HF := Lib.hid (HB.out (by rw [HP.out, h126]; rfl))
              clear h126 h95 h46
              go_wp2_with (go_at_call 95; refine (plain_any _ _).mono ?_; rintro e w' ⟨rfl, rfl⟩; rw [hp])
              go_ret
              exact ⟨ret_bool HF.out.symm, rfl⟩
            · have e2 := u8_ne (n := 126) 126 rfl h126
              have HT := Lib.hid (show Req.tokB s[k] = true by rw [HP.out, hp]; simp [h46, h95, h126])
              clear h95 h126 h46
              go_wp2_with (go_at_call 95; refine (plain_any _ _).mono ?_; rintro e w' ⟨rfl, rfl⟩; rw [hp])
              go_round
              case rel =>
                refine ⟨k + 1, by omega, by go_num, fun j hj hjk => ?_⟩
                by_cases e : j = k
                · subst e; exact HT.out
                · exact HALL.out j hj (by omega)
              case measure => simp [intOf]; omega
      · have hp' : Pct.plainB s[k] = false := by simpa using hp
        have HF := Lib.hid (HB.out (by rw [HP.out, hp']; rfl))
        clear hp
        go_wp2_with (go_at_call 95; refine (plain_any _ _).mono ?_; rintro e w' ⟨rfl, rfl⟩; rw [hp'])
        go_ret
        exact ⟨ret_bool HF.out.symm, rfl⟩
    · have HT := Lib.hid (show Req.token s.data.toList = !s.toList.isEmpty by
        unfold Req.token
        rw [all_of_get fun j hj => HALL.out j hj (by omega), Bool.and_true, HE.out])
      go_wp2
      go_ret
      exact ⟨ret_bool HT.out.symm, rfl⟩
theorem isToken_any (l : List UInt8) (w : World) (hs : l.length ≤ 1073741824) :
    Calls Tryd.prog 74 #[.string (S l)] w fun e w' => e = .returned (.bool (Req.token l)) ∧ w = w' := isToken_s (S l) w hs

theorem low_add (c : UInt8) (h1 : 65 ≤ c.toNat) (h2 : c.toNat ≤ 90) : (Req.low c).toNat = c.toNat + 32 := by
  have := Req.byte_all (P := fun c => !(decide (65 ≤ c.toNat ∧ c.toNat ≤ 90)) || (Req.low c).toNat == c.toNat + 32) (by decide +kernel) c
  simp [h1, h2] at this
  exact this
theorem low_same (c : UInt8) (h : ¬ (65 ≤ c.toNat ∧ c.toNat ≤ 90)) : Req.low c = c := by unfold Req.low; rw [if_neg h]

set_option maxHeartbeats 400000 in
theorem reqSmall_any (c : UInt8) (w : World) :
    Calls Tryd.prog 49 #[B c] w fun e w' => e = .returned (B (Req.low c)) ∧ w = w' := by
  have hb8 := Pct.u8_lt c
  by_cases h : 65 ≤ c.toNat ∧ c.toNat ≤ 90
  · obtain ⟨h1, h2⟩ := h
    have HL := Lib.hid (low_add c h1 h2)
    go_enter Tryd.func49, Tryd.ntmps49
    go_wp2
    go_ret
    refine ⟨?_, rfl⟩
    unfold B
    rw [HL.out]
    simp
    omega
  · have HL := Lib.hid (low_same c h)
    go_enter Tryd.func49, Tryd.ntmps49
    go_wp2
    all_goals first
      | (go_ret
         exact ⟨by rw [HL.out]; rfl, rfl⟩)
      | (exfalso; omega)
end Rq
end Go.Proofs.YtehgigfngelkjaaDoor
