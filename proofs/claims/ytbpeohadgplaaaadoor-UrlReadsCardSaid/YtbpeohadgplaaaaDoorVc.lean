/- What package url's cutAhead and portOf answer, for any text of at most 2^30 bytes. -/
import Derived.Test.YtbpeohadgplaaaaDoorVb
import Derived.Test.YtbpeohadgplaaaaDoorRefD
namespace Go.Proofs.YtbpeohadgplaaaaDoor
set_option maxRecDepth 8000
open Go.RowKit

/-- None of some bytes. -/
def noneIn (o : List UInt8) (c : UInt8) : Bool := !(o.contains c)

theorem any_split (o : List UInt8) : ∀ l : List UInt8, (Lib.indexAny l o = -1 ∧ l.takeWhile (noneIn o) = l ∧ l.dropWhile (noneIn o) = []) ∨ ∃ i : Nat, Lib.indexAny l o = (i : Int) ∧ i < l.length ∧ l.takeWhile (noneIn o) = l.take i ∧ l.dropWhile (noneIn o) = l.drop i
  | [] => .inl ⟨rfl, rfl, rfl⟩
  | b :: l => by
    by_cases hb : o.contains b = true
    · right
      refine ⟨0, ?_, by simp, ?_, ?_⟩
      · rw [Lib.indexAny, if_pos hb]; rfl
      · rw [List.takeWhile_cons_of_neg (by unfold noneIn; rw [hb]; simp)]; rfl
      · rw [List.dropWhile_cons_of_neg (by unfold noneIn; rw [hb]; simp)]; rfl
    · have hp : noneIn o b = true := by unfold noneIn; simpa using hb
      rcases any_split o l with ⟨h1, h2, h3⟩ | ⟨i, h1, h2, h3, h4⟩
      · left
        refine ⟨?_, ?_, ?_⟩
        · rw [Lib.indexAny, if_neg hb, h1]; rfl
        · rw [List.takeWhile_cons_of_pos hp, h2]
        · rw [List.dropWhile_cons_of_pos hp, h3]
      · right
        refine ⟨i + 1, ?_, by simp; omega, ?_, ?_⟩
        · rw [Lib.indexAny, if_neg hb, h1, if_neg (by simp)]; simp
        · rw [List.takeWhile_cons_of_pos hp, h3]; rfl
        · rw [List.dropWhile_cons_of_pos hp, h4]; rfl

theorem S_extract_take (l : List UInt8) (i : Nat) : (S l).extract 0 i = S (l.take i) := by
  rw [extract_piece]
  simp [S]
theorem S_extract_drop (l : List UInt8) (i : Nat) : (S l).extract i (S l).size = S (l.drop i) := by
  rw [extract_rest]
  rfl

set_option maxHeartbeats 400000 in
theorem cutAhead_any (l o : List UInt8) (w : World) (hc : Low (S o)) (h2 : 2 ≤ o.length) (h100 : o.length ≤ 100) (hs : l.length ≤ 1073741824) :
    Calls Tryd.prog 38 #[.string (S l), .string (S o)] w (Told w (.returned (.tuple #[.string (S (l.takeWhile (noneIn o))), .string (S (l.dropWhile (noneIn o)))]))) := by
  have hz : (S l).size = l.length := rfl
  have hia := indexAny_any (S l) (S o) w hc h2 h100 (by omega)
  rcases any_split o l with ⟨h1, e1, e2⟩ | ⟨i, h1, hi, e1, e2⟩
  · rw [e1, e2]
    rw [show Lib.indexAny (S l).data.toList (S o).data.toList = -1 from h1] at hia
    clear h1 e1 e2 hz
    go_enter Tryd.func38, Tryd.ntmps38
    go_wp2_with (go_at_call 71; refine hia.mono ?_; rintro e w' ⟨rfl, hb⟩)
    go_ret2
    exact ⟨rfl, hb⟩
  · rw [e1, e2, ← S_extract_take, ← S_extract_drop]
    rw [show Lib.indexAny (S l).data.toList (S o).data.toList = (i : Int) from h1] at hia
    have c1 : (0 : Int) ≤ (i : Int) := by omega
    have c2 : (i : Int) ≤ ((S l).size : Int) := by omega
    clear h1 e1 e2 hz
    go_enter Tryd.func38, Tryd.ntmps38
    go_wp2_with (go_at_call 71; refine hia.mono ?_; rintro e w' ⟨rfl, hb⟩)
    go_region
    go_wp2
    go_ret2
    exact ⟨rfl, hb.drew⟩

/-! ### Ports -/
def portRes (o : Option Nat) : Ending := .returned (.tuple #[.int .i64 ((o.getD 0 : Nat) : Int), .bool o.isSome])

theorem val_go (r : List UInt8) : ∀ n : Nat, r.foldl (fun n c => 10 * n + (c.toNat - 48)) n ≥ n * 10 ^ r.length := by
  induction r with
  | nil => intro n; simp
  | cons c r ih =>
    intro n
    rw [List.foldl_cons, List.length_cons]
    refine Nat.le_trans ?_ (ih _)
    have : n * 10 ^ (r.length + 1) = (10 * n) * 10 ^ r.length := by rw [Nat.pow_succ, Nat.mul_comm (10 ^ r.length) 10, ← Nat.mul_assoc, Nat.mul_comm 10 n]
    rw [this]
    exact Nat.mul_le_mul_right _ (by omega)
theorem portOf_long {d : List UInt8} (h : 5 < d.length) : Url.portOf d = none := by
  unfold Url.portOf
  rw [if_neg]
  rintro ⟨h1, h2, h3⟩
  match d, h, h1, h2, h3 with
  | c :: r, h, h1, h2, h3 =>
    rw [List.all_cons, Bool.and_eq_true] at h1
    have hd := of_decide_eq_true (p := 48 ≤ c.toNat ∧ c.toNat ≤ 57) h1.1
    have hc : c.toNat ≠ 48 := fun e => h2 (Pct.u8_eq e)
    have hv : Url.val (c :: r) ≥ (c.toNat - 48) * 10 ^ r.length := by
      unfold Url.val
      rw [List.foldl_cons]
      simpa using val_go r (c.toNat - 48)
    have h5 : 10 ^ 5 ≤ 10 ^ r.length := Nat.pow_le_pow_right (by omega) (by simp at h; omega)
    have h6 : 10 ^ r.length ≤ (c.toNat - 48) * 10 ^ r.length := Nat.le_mul_of_pos_left _ (by omega)
    have : (10 : Nat) ^ 5 = 100000 := rfl
    omega
theorem portOf_bad {s : ByteArray} {k : Nat} (hk : k < s.size) (h : Url.digB s[k] = false) : Url.portOf s.data.toList = none := by
  unfold Url.portOf
  rw [if_neg]
  rintro ⟨h1, _, _⟩
  have := List.all_eq_true.1 h1 s[k] (List.mem_of_getElem? (Lib.data_getElem? s k hk))
  rw [h] at this
  cases this
theorem head_byte {s : ByteArray} (h : 0 < s.size) : s.data.toList.headD 48 = s[0] := by
  have := Lib.data_getElem? s 0 h
  cases hl : s.data.toList with
  | nil => rw [hl] at this; cases this
  | cons c r => rw [hl] at this; exact Option.some.inj this
theorem val_take (s : ByteArray) (k : Nat) (h : k < s.size) : Url.val (s.data.toList.take (k + 1)) = 10 * Url.val (s.data.toList.take k) + (s[k].toNat - 48) := by
  rw [take_snoc s k h, Url.val_snoc]
theorem val_lt (s : ByteArray) : ∀ k, k ≤ s.size → (∀ j (hj : j < s.size), j < k → Url.digB s[j] = true) → Url.val (s.data.toList.take k) < 10 ^ k
  | 0, _, _ => by simp [Url.val]
  | k + 1, hk, ha => by
    have ih := val_lt s k (by omega) (fun j hj hjk => ha j hj (by omega))
    rw [val_take s k (by omega), Nat.pow_succ]
    have := of_decide_eq_true (p := 48 ≤ s[k].toNat ∧ s[k].toNat ≤ 57) (ha k (by omega) (by omega))
    omega

set_option maxHeartbeats 800000 in
theorem portOf_any (s : ByteArray) (w : World) (hs : s.size ≤ 1073741824) :
    Calls Tryd.prog 74 #[.string s] w fun e w' => e = portRes (Url.portOf s.data.toList) ∧ w = w' := by
  have HZ := Lib.hid (Lib.size_eq s)
  by_cases h0 : s.size = 0
  · have hl : s.data.toList = [] := List.length_eq_zero_iff.1 (by have := HZ.out; omega)
    have he : s.toList.isEmpty = true := by rw [Lib.toList_data, hl]; rfl
    have H := Lib.hid (show Url.portOf s.data.toList = none by rw [hl]; rfl)
    clear hl
    go_enter Tryd.func74, Tryd.ntmps74
    go_wp2
    go_ret2
    exact ⟨by rw [H.out]; rfl, rfl⟩
  · have he : s.toList.isEmpty = false := by
      rw [Lib.toList_data]
      cases hl : s.data.toList with
      | nil => have := HZ.out; rw [hl] at this; exact absurd this h0
      | cons _ _ => rfl
    by_cases h5 : s.size ≤ 5
    · have hp0 : 0 < s.size := by omega
      by_cases hz : s[0].toNat = 48
      · have e1 : ((s[0].toNat : Int) == 48) = true := by rw [hz]; rfl
        have H := Lib.hid (show Url.portOf s.data.toList = none by
          unfold Url.portOf
          rw [if_neg]
          rintro ⟨_, h2, _⟩
          exact h2 (by rw [head_byte hp0]; exact Pct.u8_eq hz))
        clear hz
        go_enter Tryd.func74, Tryd.ntmps74
        go_wp2
        go_ret2
        exact ⟨by rw [H.out]; rfl, rfl⟩
      · have e1 : ((s[0].toNat : Int) == 48) = false := beq_eq_false_iff_ne.2 (by omega)
        have HH := Lib.hid (show s.data.toList.headD 48 ≠ 48 by rw [head_byte hp0]; intro e; exact hz (by rw [e]; rfl))
        clear hz
        go_enter Tryd.func74, Tryd.ntmps74
        go_wp2
        go_loop [4, 20] (fun n i => ∃ (k m : Nat), k ≤ s.size ∧ i = .int .i64 k ∧ n = .int .i64 m ∧ m ≤ 99999 ∧ m = Url.val (s.data.toList.take k) ∧ ∀ j (hj : j < s.size), j < k → Url.digB s[j] = true) (fun _ i => s.size - (intOf i).toNat)
        case atStart => exact ⟨0, 0, Nat.zero_le _, rfl, rfl, by omega, by simp [Url.val], fun j _ hj => absurd hj (by omega)⟩
        case round =>
          obtain ⟨k, m, hk, rfl, rfl, hm, hmv, hall⟩ := hrel
          have HALL := Lib.hid hall
          have HMV := Lib.hid hmv
          clear hall hmv
          by_cases hlt : k < s.size
          · by_cases hdg : Url.digB s[k] = true
            · obtain ⟨d1, d2⟩ := of_decide_eq_true (p := 48 ≤ s[k].toNat ∧ s[k].toNat ≤ 57) hdg
              have HA2 := Lib.hid (show ∀ j (hj : j < s.size), j < k + 1 → Url.digB s[j] = true from fun j hj hjk => by
                by_cases e : j = k
                · subst e; exact hdg
                · exact HALL.out j hj (by omega))
              have HV := Lib.hid (val_take s k hlt)
              have hb2 : 10 * m + (s[k].toNat - 48) ≤ 99999 := by
                have := val_lt s (k + 1) (by omega) HA2.out
                rw [HV.out, ← HMV.out] at this
                have h10 : (10 : Nat) ^ (k + 1) ≤ 10 ^ 5 := Nat.pow_le_pow_right (by omega) (by omega)
                have : (10 : Nat) ^ 5 = 100000 := rfl
                omega
              clear hdg
              go_wp2
              go_round
              case rel => exact ⟨k + 1, 10 * m + (s[k].toNat - 48), by omega, by go_num, by go_num, hb2, by rw [HV.out, HMV.out], HA2.out⟩
              case measure => simp [intOf]; omega
            · have hdg' : Url.digB s[k] = false := by simpa using hdg
              have H := Lib.hid (portOf_bad hlt hdg')
              have hd : s[k].toNat < 48 ∨ 57 < s[k].toNat := by
                have := of_decide_eq_false (p := 48 ≤ s[k].toNat ∧ s[k].toNat ≤ 57) hdg'
                omega
              clear hdg hdg'
              by_cases hd1 : s[k].toNat < 48
              · clear hd
                go_wp2
                go_ret2
                exact ⟨by rw [H.out]; rfl, rfl⟩
              · have hd2 : 57 < s[k].toNat := by omega
                clear hd
                go_wp2
                go_ret2
                exact ⟨by rw [H.out]; rfl, rfl⟩
          · have hv : m = Url.val s.data.toList := by rw [HMV.out, List.take_of_length_le (by have := HZ.out; omega)]
            have ha : s.data.toList.all Url.digB = true := by
              rw [List.all_eq_true]
              intro x hx
              obtain ⟨j, hj, rfl⟩ := List.getElem_of_mem hx
              have hj' : j < s.size := by simpa using hj
              exact HALL.out j hj' (by omega)
            by_cases hbig : m ≤ 65535
            · have H := Lib.hid (show Url.portOf s.data.toList = some m by
                unfold Url.portOf
                rw [← hv, if_pos ⟨ha, HH.out, hbig⟩])
              clear hv ha
              go_wp2
              go_ret2
              exact ⟨by rw [H.out]; rfl, rfl⟩
            · have H := Lib.hid (show Url.portOf s.data.toList = none by
                unfold Url.portOf
                rw [← hv, if_neg (fun h => hbig h.2.2)])
              clear hv ha
              go_wp2
              go_ret2
              exact ⟨by rw [H.out]; rfl, rfl⟩
    · have H := Lib.hid (portOf_long (d := s.data.toList) (by have := HZ.out; omega))
      go_enter Tryd.func74, Tryd.ntmps74
      go_wp2
      go_ret2
      exact ⟨by rw [H.out]; rfl, rfl⟩
end Go.Proofs.YtbpeohadgplaaaaDoor
