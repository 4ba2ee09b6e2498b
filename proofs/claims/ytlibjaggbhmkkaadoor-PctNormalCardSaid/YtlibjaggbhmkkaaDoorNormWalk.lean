/- What the statement's own functions only and PctNormal do: PctNormal answers true for every two texts, where the table of digits reads as its text lays it. -/
import Derived.Test.YtlibjaggbhmkkaaDoorBackWalk
namespace Go.Proofs.YtlibjaggbhmkkaaDoor
open Go.RowKit

def onlyB (s : ByteArray) : Bool := s.data.toList.all Pct.okB

theorem all_take_snoc (s : ByteArray) (k : Nat) (h : k < s.size) : (s.data.toList.take (k + 1)).all Pct.okB = ((s.data.toList.take k).all Pct.okB && Pct.okB s[k]) := by
  rw [take_snoc s k h, List.all_append]
  simp

theorem okB_of {c : UInt8} : Pct.okB c = (c.toNat == 37 || Pct.plainB c) := by
  unfold Pct.okB
  congr 1
  rw [Bool.eq_iff_iff]
  simp
  exact ⟨fun h => by rw [h]; rfl, fun h => Pct.u8_eq h⟩

theorem all_false_of {s : ByteArray} {k : Nat} (h : k < s.size) (hn : Pct.okB s[k] = false) : onlyB s = false := by
  unfold onlyB
  rw [← Bool.not_eq_true, List.all_eq_true]
  intro ha
  have : s[k] ∈ s.data.toList := by
    have e : s[k] = s.data.toList[k]'(by simpa using h) := rfl
    rw [e]
    exact List.getElem_mem _
  rw [ha _ this] at hn
  cases hn

set_option maxHeartbeats 400000 in
theorem only_any (s : ByteArray) (w : World) (hs : s.size ≤ 1099511627776) :
    Calls Tryd.prog 26 #[.string s] w fun e w' => e = .returned (.bool (onlyB s)) ∧ w = w' := by
  go_enter Tryd.func26, Tryd.ntmps26
  go_wp2
  go_loop [3] (fun i => ∃ k : Nat, k ≤ s.size ∧ i = .int .i64 k ∧ (s.data.toList.take k).all Pct.okB = true) (fun i => s.size - (intOf i).toNat)
  case atStart => exact ⟨0, Nat.zero_le _, rfl, rfl⟩
  case round =>
    obtain ⟨k, hk, rfl, ha⟩ := hrel
    have HA := Lib.hid ha
    clear ha
    by_cases hlt : k < s.size
    · have HS := Lib.hid (all_take_snoc s k hlt)
      by_cases h37 : s[k].toNat = 37
      · have hc : ((s[k].toNat : Int) != 37) = false := by rw [h37]; rfl
        have HO := Lib.hid (show Pct.okB s[k] = true by rw [okB_of, h37]; rfl)
        clear h37
        go_wp2
        go_round
        case rel => exact ⟨k + 1, by omega, by go_num, by rw [HS.out, HA.out, HO.out]; rfl⟩
        case measure => simp [intOf]; omega
      · have hc : ((s[k].toNat : Int) != 37) = true := by simp; omega
        cases hp : Pct.plainB s[k] with
        | true =>
          have HO := Lib.hid (show Pct.okB s[k] = true by rw [okB_of, hp]; simp)
          have HP := Lib.hid hp
          clear hp h37
          go_wp2_with (go_at_call 15; refine (refPlain_any s[k] _).mono ?_; rintro e w' ⟨rfl, rfl⟩; rw [HP.out])
          go_round
          case rel => exact ⟨k + 1, by omega, by go_num, by rw [HS.out, HA.out, HO.out]; rfl⟩
          case measure => simp [intOf]; omega
        | false =>
          have HO := Lib.hid (all_false_of hlt (show Pct.okB s[k] = false by rw [okB_of, hp]; simpa using h37))
          have HP := Lib.hid hp
          clear hp h37
          go_wp2_with (go_at_call 15; refine (refPlain_any s[k] _).mono ?_; rintro e w' ⟨rfl, rfl⟩; rw [HP.out])
          go_ret
          exact ⟨ret_bool HO.out.symm, rfl⟩
    · have hfin := HA.out
      rw [List.take_of_length_le (by simp; omega)] at hfin
      have HF := Lib.hid (show onlyB s = true from hfin)
      clear hfin
      go_wp2
      go_ret
      exact ⟨ret_bool HF.out.symm, rfl⟩

theorem normal_str (t u : ByteArray) (w : World) (hd : Digs w) (hl : t.size ≤ 1073741824) (h : Pct.norm t.data.toList = some u.data.toList) :
    Calls Tryd.prog 12 #[.string t] w fun e w' => e = .returned (.tuple #[.string u, .int .i64 0]) ∧ Below w.heap.size w w' :=
  (normal_any t w hd hl).mono fun e w' ⟨he, hb⟩ => ⟨by rw [he, h]; rfl, hb⟩
theorem normal_bad (t : ByteArray) (w : World) (hd : Digs w) (hl : t.size ≤ 1073741824) (h : Pct.norm t.data.toList = none) :
    Calls Tryd.prog 12 #[.string t] w fun e w' => e = .returned (.tuple #[.string ⟨#[]⟩, .int .i64 11]) ∧ Below w.heap.size w w' :=
  (normal_any t w hd hl).mono fun e w' ⟨he, hb⟩ => ⟨by rw [he, h]; rfl, hb⟩

set_option maxHeartbeats 400000 in
set_option maxRecDepth 100000 in
theorem pctNormal_long (s t : ByteArray) (w : World) (hd : Digs w) (hs : 200 < s.size ∨ s.size ≤ 200 ∧ 200 < t.size) :
    Calls Tryd.prog 6 #[.string s, .string t] w (AwakePost w) := by
  rcases hs with h1 | ⟨h1, h2⟩
  all_goals
    go_enter Tryd.func6, Tryd.ntmps6
    go_wp2_with (go_at_call 9; refine (awake_any w hd).mono ?_; rintro e w1 ⟨rfl, hb1⟩)
    go_ret
    exact ⟨rfl, hb1⟩

set_option maxHeartbeats 400000 in
set_option maxRecDepth 100000 in
theorem pctNormal_bad1 (s t : ByteArray) (w : World) (hd : Digs w) (h1 : s.size ≤ 200) (h2 : t.size ≤ 200) (hn : Pct.norm s.data.toList = none) :
    Calls Tryd.prog 6 #[.string s, .string t] w (AwakePost w) := by
  have h0 := hd.lt
  have HN := Lib.hid hn
  clear hn
  go_enter Tryd.func6, Tryd.ntmps6
  go_wp2_with fail
  refine (awake_any w hd).mono ?_
  rintro e w1 ⟨rfl, hb1⟩
  go_wp2_with fail
  refine (normal_bad s w1 (hd.below hb1 h0) (by omega) HN.out).mono ?_
  rintro e w2 ⟨rfl, hb2⟩
  have hb2' : Below w.heap.size w w2 := hb1.trans (hb2.mono hb1.size)
  cases ht : Pct.norm t.data.toList with
  | none =>
    have HT := Lib.hid ht
    clear ht hb2
    go_wp2_with fail
    refine (normal_bad t w2 (hd.below hb2' h0) (by omega) HT.out).mono ?_
    rintro e w3 ⟨rfl, hb3⟩
    have hb3' : Below w.heap.size w w3 := hb2'.trans (hb3.mono hb2'.size)
    go_wp2
    go_ret
    exact ⟨rfl, hb3'⟩
  | some b =>
    have HT := Lib.hid ht
    clear ht hb2
    go_wp2_with fail
    refine (normal_str t (S b) w2 (hd.below hb2' h0) (by omega) HT.out).mono ?_
    rintro e w3 ⟨rfl, hb3⟩
    have hb3' : Below w.heap.size w w3 := hb2'.trans (hb3.mono hb2'.size)
    go_wp2
    go_ret
    exact ⟨rfl, hb3'⟩

set_option maxHeartbeats 400000 in
set_option maxRecDepth 100000 in
theorem pctNormal_bad2 (s t : ByteArray) (a : List UInt8) (w : World) (hd : Digs w) (h1 : s.size ≤ 200) (h2 : t.size ≤ 200) (hn : Pct.norm s.data.toList = some a) (ht : Pct.norm t.data.toList = none) :
    Calls Tryd.prog 6 #[.string s, .string t] w (AwakePost w) := by
  have h0 := hd.lt
  have HN := Lib.hid hn
  have HT := Lib.hid ht
  clear hn ht
  go_enter Tryd.func6, Tryd.ntmps6
  go_wp2_with fail
  refine (awake_any w hd).mono ?_
  rintro e w1 ⟨rfl, hb1⟩
  go_wp2_with fail
  refine (normal_str s (S a) w1 (hd.below hb1 h0) (by omega) HN.out).mono ?_
  rintro e w2 ⟨rfl, hb2⟩
  have hb2' : Below w.heap.size w w2 := hb1.trans (hb2.mono hb1.size)
  clear hb2
  go_wp2_with fail
  refine (normal_bad t w2 (hd.below hb2' h0) (by omega) HT.out).mono ?_
  rintro e w3 ⟨rfl, hb3⟩
  have hb3' : Below w.heap.size w w3 := hb2'.trans (hb3.mono hb2'.size)
  go_wp2
  go_ret
  exact ⟨rfl, hb3'⟩

theorem only_to (s : ByteArray) (o : Bool) (w : World) (hs : s.size ≤ 1099511627776) (h : onlyB s = o) :
    Calls Tryd.prog 26 #[.string s] w fun e w' => e = .returned (.bool o) ∧ w = w' :=
  (only_any s w hs).mono fun e w' ⟨he, hw⟩ => ⟨by rw [he, h], hw⟩

theorem nb_cases : ∀ q r o1 o2 : Bool, (q = true → r = true) → (o1 = true → o2 = true → q = r) → (q = true ∧ r = true) ∨ (q = false ∧ r = false) ∨ (q = false ∧ r = true ∧ (o1 = false ∨ o2 = false)) := by decide
theorem nb_cases2 {q r : Bool} (h : (q = true ∧ r = true) ∨ (q = false ∧ r = false) ∨ (q = false ∧ r = true ∧ (true = false ∨ true = false))) : (q = true ∧ r = true) ∨ (q = false ∧ r = false) := by
  rcases h with h | h | ⟨_, _, h | h⟩
  · exact .inl h
  · exact .inr h
  · cases h
  · cases h

set_option maxHeartbeats 1000000 in
set_option maxRecDepth 100000 in
theorem pctNormal_core (s t a b x z : ByteArray) (w : World) (hd : Digs w) (h1 : s.size ≤ 200) (h2 : t.size ≤ 200) (ha3 : a.size ≤ 1000)
    (hs : Pct.norm s.data.toList = some a.data.toList) (ht : Pct.norm t.data.toList = some b.data.toList) (haa : Pct.norm a.data.toList = some a.data.toList)
    (hx : Pct.dec false s.data.toList = some x.data.toList) (hy : Pct.dec false a.data.toList = some x.data.toList) (hz : Pct.dec false t.data.toList = some z.data.toList)
    (o1 o2 q r : Bool) (ho1 : onlyB s = o1) (ho2 : onlyB t = o2) (hq : (a.toList == b.toList) = q) (hr : (x.toList == z.toList) = r) (hl1 : q = true → r = true) (hl2 : o1 = true → o2 = true → q = r) :
    Calls Tryd.prog 6 #[.string s, .string t] w (AwakePost w) := by
  have h0 := hd.lt
  have HS := Lib.hid hs
  have HT := Lib.hid ht
  have HAA := Lib.hid haa
  have HX := Lib.hid hx
  have HY := Lib.hid hy
  have HZ := Lib.hid hz
  have HO1 := Lib.hid ho1
  have HO2 := Lib.hid ho2
  have HL1 := Lib.hid hl1
  have HL2 := Lib.hid hl2
  clear hs ht haa hx hy hz ho1 ho2 hl1 hl2
  go_enter Tryd.func6, Tryd.ntmps6
  go_wp2_with fail
  refine (awake_any w hd).mono ?_
  rintro e w1 ⟨rfl, hb1⟩
  go_wp2_with fail
  refine (normal_str s a w1 (hd.below hb1 h0) (by omega) HS.out).mono ?_
  rintro e w2 ⟨rfl, hb2⟩
  have hb2' : Below w.heap.size w w2 := hb1.trans (hb2.mono hb1.size)
  clear hb2 hb1
  go_wp2_with fail
  refine (normal_str t b w2 (hd.below hb2' h0) (by omega) HT.out).mono ?_
  rintro e w3 ⟨rfl, hb3⟩
  have hb3' : Below w.heap.size w w3 := hb2'.trans (hb3.mono hb2'.size)
  clear hb3 hb2'
  go_wp2_with fail
  refine (normal_str a a w3 (hd.below hb3' h0) (by omega) HAA.out).mono ?_
  rintro e w4 ⟨rfl, hb4⟩
  have hb4' : Below w.heap.size w w4 := hb3'.trans (hb4.mono hb3'.size)
  clear hb4 hb3'
  go_wp2_with fail
  refine (decode_str s x false w4 (hd.below hb4' h0) (by omega) HX.out).mono ?_
  rintro e w5 ⟨rfl, hb5⟩
  have hb5' : Below w.heap.size w w5 := hb4'.trans (hb5.mono hb4'.size)
  clear hb5 hb4'
  go_wp2_with fail
  refine (decode_str a x false w5 (hd.below hb5' h0) (by omega) HY.out).mono ?_
  rintro e w6 ⟨rfl, hb6⟩
  have hb6' : Below w.heap.size w w6 := hb5'.trans (hb6.mono hb5'.size)
  clear hb6 hb5'
  go_wp2_with fail
  refine (decode_str t z false w6 (hd.below hb6' h0) (by omega) HZ.out).mono ?_
  rintro e w7 ⟨rfl, hb7⟩
  have hb7' : Below w.heap.size w w7 := hb6'.trans (hb7.mono hb6'.size)
  clear hb7 hb6'
  have hcase : (q = true ∧ r = true) ∨ (q = false ∧ r = false) ∨ (q = false ∧ r = true ∧ (o1 = false ∨ o2 = false)) := nb_cases q r o1 o2 HL1.out HL2.out
  clear HL1 HL2
  cases o1 with
  | false =>
    have HD := Lib.hid hcase
    clear hcase
    have hqn : (a.toList != b.toList) = !q := by rw [bne, hq]
    have hrn : (x.toList != z.toList) = !r := by rw [bne, hr]
    rcases (show (q = true ∧ r = true) ∨ q = false by rcases HD.out with h | h | h <;> simp [h]) with ⟨rfl, rfl⟩ | rfl
    all_goals
      go_wp2_with fail
      refine (only_to s false _ (by omega) HO1.out).mono ?_
      rintro e w' ⟨rfl, rfl⟩
      go_wp2
      go_ret
      exact ⟨rfl, hb7'⟩
  | true =>
    cases o2 with
    | false =>
      have HD := Lib.hid hcase
      clear hcase
      have hqn : (a.toList != b.toList) = !q := by rw [bne, hq]
      have hrn : (x.toList != z.toList) = !r := by rw [bne, hr]
      rcases (show (q = true ∧ r = true) ∨ q = false by rcases HD.out with h | h | h <;> simp [h]) with ⟨rfl, rfl⟩ | rfl
      all_goals
        go_wp2_with fail
        refine (only_to s true _ (by omega) HO1.out).mono ?_
        rintro e w' ⟨rfl, rfl⟩
        go_wp2_with fail
        refine (only_to t false _ (by omega) HO2.out).mono ?_
        rintro e w' ⟨rfl, rfl⟩
        go_wp2
        go_ret
        exact ⟨rfl, hb7'⟩
    | true =>
      rcases (show (q = true ∧ r = true) ∨ (q = false ∧ r = false) from nb_cases2 hcase) with ⟨rfl, rfl⟩ | ⟨rfl, rfl⟩
      all_goals
        clear hcase
        have hrn : (x.toList != z.toList) = !(x.toList == z.toList) := rfl
        rw [hr] at hrn
        go_wp2_with fail
        refine (only_to s true _ (by omega) HO1.out).mono ?_
        rintro e w' ⟨rfl, rfl⟩
        go_wp2_with fail
        refine (only_to t true _ (by omega) HO2.out).mono ?_
        rintro e w' ⟨rfl, rfl⟩
        go_wp2
        go_ret
        exact ⟨rfl, hb7'⟩

theorem toList_beq (a b : ByteArray) : (a.toList == b.toList) = true ↔ a = b := by
  rw [beq_iff_eq, Lib.toList_data, Lib.toList_data]
  constructor
  · intro h
    rw [← S_eq a, ← S_eq b, h]
  · intro h
    rw [h]

theorem pctNormal_any (s t : ByteArray) (w : World) (hd : Digs w) : Calls Tryd.prog 6 #[.string s, .string t] w (AwakePost w) := by
  by_cases h1 : s.size ≤ 200
  · by_cases h2 : t.size ≤ 200
    · cases hs : Pct.norm s.data.toList with
      | none => exact pctNormal_bad1 s t w hd h1 h2 hs
      | some a =>
        cases ht : Pct.norm t.data.toList with
        | none => exact pctNormal_bad2 s t a w hd h1 h2 hs ht
        | some b =>
          obtain ⟨x, hx⟩ := Pct.dec_of_norm false hs
          obtain ⟨z, hz⟩ := Pct.dec_of_norm false ht
          have hla := Pct.norm_len hs
          have e1 : s.data.toList.length = s.size := by simp
          have hy : Pct.dec false a = some x := (Pct.dec_norm hs).trans hx
          refine pctNormal_core s t (S a) (S b) (S x) (S z) w hd h1 h2 (by have : (S a).size = a.length := rfl; omega) hs ht (Pct.norm_norm hs) hx hy hz _ _ _ _ rfl rfl rfl rfl ?_ ?_
          · intro h
            rw [toList_beq] at h ⊢
            have hab : a = b := congrArg (fun s : ByteArray => s.data.toList) h
            subst hab
            have := (Pct.dec_norm ht).trans hz
            rw [hy] at this
            rw [Option.some.inj this]
          · intro o1 o2
            have := Pct.normal_law o1 o2 hs ht hx hz
            rw [Bool.eq_iff_iff, toList_beq, toList_beq]
            constructor
            · intro h
              rw [this.1 (congrArg (fun s : ByteArray => s.data.toList) h)]
            · intro h
              rw [this.2 (congrArg (fun s : ByteArray => s.data.toList) h)]
    · exact pctNormal_long s t w hd (.inr ⟨h1, by omega⟩)
  · exact pctNormal_long s t w hd (.inl (by omega))
end Go.Proofs.YtlibjaggbhmkkaaDoor
