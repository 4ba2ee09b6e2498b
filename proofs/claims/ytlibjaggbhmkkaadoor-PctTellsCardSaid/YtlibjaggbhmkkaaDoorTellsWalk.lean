/- What the statement's own function PctTells does: it answers true for every text and either way of reading +, where the table of digits reads as its text lays it. -/
import Derived.Test.YtlibjaggbhmkkaaDoorRefC
namespace Go.Proofs.YtlibjaggbhmkkaaDoor
open Go.RowKit

def decS (o : Option (List UInt8)) : ByteArray :=
  match o with
  | some l => S l
  | none => ⟨#[]⟩
def decE (o : Option (List UInt8)) : Int :=
  match o with
  | some _ => 0
  | none => 11
theorem decRes_eq (o : Option (List UInt8)) : decRes o = .returned (.tuple #[.string (decS o), .int .i64 (decE o)]) := by cases o <;> rfl

theorem decode_gen (s : ByteArray) (p : Bool) (da : ByteArray) (ea : Int) (w : World) (hd : Digs w) (hs : s.size ≤ 1073741824) (h1 : da = decS (Pct.dec p s.data.toList)) (h2 : ea = decE (Pct.dec p s.data.toList)) :
    Calls Tryd.prog 10 #[.string s, .bool p] w fun e w' => e = .returned (.tuple #[.string da, .int .i64 ea]) ∧ Below w.heap.size w w' :=
  (decode_any s p w hd hs).mono fun e w' ⟨he, hb⟩ => ⟨by rw [he, decRes_eq, h1, h2], hb⟩
theorem refDecode_gen (s : ByteArray) (p : Bool) (da : ByteArray) (ea : Int) (w : World) (hs : s.size ≤ 1073741824) (h1 : da = decS (Pct.dec p s.data.toList)) (h2 : ea = decE (Pct.dec p s.data.toList)) :
    Calls Tryd.prog 11 #[.string s, .bool p] w fun e w' => e = .returned (.tuple #[.string da, .int .i64 ea]) ∧ Below w.heap.size w w' :=
  (refDecode_any s p w hs).mono fun e w' ⟨he, hb⟩ => ⟨by rw [he, decRes_eq, h1, h2], hb⟩
theorem normal_gen (s : ByteArray) (da : ByteArray) (ea : Int) (w : World) (hd : Digs w) (hs : s.size ≤ 1073741824) (h1 : da = decS (Pct.norm s.data.toList)) (h2 : ea = decE (Pct.norm s.data.toList)) :
    Calls Tryd.prog 12 #[.string s] w fun e w' => e = .returned (.tuple #[.string da, .int .i64 ea]) ∧ Below w.heap.size w w' :=
  (normal_any s w hd hs).mono fun e w' ⟨he, hb⟩ => ⟨by rw [he, decRes_eq, h1, h2], hb⟩
theorem refNormal_gen (s : ByteArray) (da : ByteArray) (ea : Int) (w : World) (hs : s.size ≤ 1073741824) (h1 : da = decS (Pct.norm s.data.toList)) (h2 : ea = decE (Pct.norm s.data.toList)) :
    Calls Tryd.prog 13 #[.string s] w fun e w' => e = .returned (.tuple #[.string da, .int .i64 ea]) ∧ Below w.heap.size w w' :=
  (refNormal_any s w hs).mono fun e w' ⟨he, hb⟩ => ⟨by rw [he, decRes_eq, h1, h2], hb⟩

theorem plain_nat (k : Nat) (b : Bool) (w : World) (hk : k < 256) (hb : Pct.plainB (UInt8.ofNat k) = b) :
    Calls Tryd.prog 14 #[.int .u8 (k : Int)] w fun e w' => e = .returned (.bool b) ∧ w = w' := by
  have h := plain_any (UInt8.ofNat k) w
  have e : (UInt8.ofNat k).toNat = k := by simp; omega
  unfold B at h
  rw [e, hb] at h
  exact h
theorem refPlain_nat (k : Nat) (b : Bool) (w : World) (hk : k < 256) (hb : Pct.plainB (UInt8.ofNat k) = b) :
    Calls Tryd.prog 15 #[.int .u8 (k : Int)] w fun e w' => e = .returned (.bool b) ∧ w = w' := by
  have h := refPlain_any (UInt8.ofNat k) w
  have e : (UInt8.ofNat k).toNat = k := by simp; omega
  unfold B at h
  rw [e, hb] at h
  exact h

set_option maxHeartbeats 400000 in
theorem pctTells_long (s : ByteArray) (p : Bool) (w : World) (hd : Digs w) (hs : 400 < s.size) :
    Calls Tryd.prog 3 #[.string s, .bool p] w (AwakePost w) := by
  go_enter Tryd.func3, Tryd.ntmps3
  go_wp2_with (go_at_call 9; refine (awake_any w hd).mono ?_; rintro e w1 ⟨rfl, hb1⟩)
  go_ret
  exact ⟨rfl, hb1⟩

set_option maxHeartbeats 800000 in
set_option maxRecDepth 100000 in
theorem pctTells_short (s : ByteArray) (p : Bool) (w : World) (hd : Digs w) (hs : s.size ≤ 400) :
    Calls Tryd.prog 3 #[.string s, .bool p] w (AwakePost w) := by
  have h0 := hd.lt
  obtain ⟨da, hda⟩ : ∃ da, da = decS (Pct.dec p s.data.toList) := ⟨_, rfl⟩
  obtain ⟨ea, hea⟩ : ∃ ea, ea = decE (Pct.dec p s.data.toList) := ⟨_, rfl⟩
  obtain ⟨na, hna⟩ : ∃ na, na = decS (Pct.norm s.data.toList) := ⟨_, rfl⟩
  obtain ⟨en, hen⟩ : ∃ en, en = decE (Pct.norm s.data.toList) := ⟨_, rfl⟩
  have HDA := Lib.hid hda
  have HEA := Lib.hid hea
  have HNA := Lib.hid hna
  have HEN := Lib.hid hen
  clear hda hea hna hen
  go_enter Tryd.func3, Tryd.ntmps3
  go_wp2_with fail
  refine (awake_any w hd).mono ?_
  rintro e w1 ⟨rfl, hb1⟩
  go_wp2_with fail
  refine (decode_gen s p da ea w1 (hd.below hb1 h0) (by omega) HDA.out HEA.out).mono ?_
  rintro e w2 ⟨rfl, hb2⟩
  have hb2' : Below w.heap.size w w2 := hb1.trans (hb2.mono hb1.size)
  clear hb2 hb1
  go_wp2_with fail
  refine (refDecode_gen s p da ea w2 (by omega) HDA.out HEA.out).mono ?_
  rintro e w3 ⟨rfl, hb3⟩
  have hb3' : Below w.heap.size w w3 := hb2'.trans (hb3.mono hb2'.size)
  clear hb3 hb2'
  go_wp2_with fail
  refine (normal_gen s na en w3 (hd.below hb3' h0) (by omega) HNA.out HEN.out).mono ?_
  rintro e w4 ⟨rfl, hb4⟩
  have hb4' : Below w.heap.size w w4 := hb3'.trans (hb4.mono hb3'.size)
  clear hb4 hb3'
  go_wp2_with fail
  refine (refNormal_gen s na en w4 (by omega) HNA.out HEN.out).mono ?_
  rintro e w5 ⟨rfl, hb5⟩
  have hb5' : Below w.heap.size w w5 := hb4'.trans (hb5.mono hb4'.size)
  clear hb5 hb4'
  go_wp2
  go_loop [14] (fun i => ∃ k : Nat, k ≤ 256 ∧ i = .int .i64 k) (fun i => 256 - (intOf i).toNat)
  case atStart => exact ⟨0, Nat.zero_le _, rfl⟩
  case round =>
    obtain ⟨k, hk, rfl⟩ := hrel
    by_cases hlt : k < 256
    · obtain ⟨b, hb⟩ : ∃ b, Pct.plainB (UInt8.ofNat k) = b := ⟨_, rfl⟩
      have HB := Lib.hid hb
      clear hb
      cases b with
      | true =>
        go_wp2_with (first
          | (go_at_call 14; refine (plain_nat k true _ hlt HB.out).mono ?_; rintro e w' ⟨rfl, rfl⟩)
          | (go_at_call 15; refine (refPlain_nat k true _ hlt HB.out).mono ?_; rintro e w' ⟨rfl, rfl⟩))
        go_round
        case rel => exact ⟨k + 1, by omega, by go_num⟩
        case measure => simp [intOf]; omega
      | false =>
        go_wp2_with (first
          | (go_at_call 14; refine (plain_nat k false _ hlt HB.out).mono ?_; rintro e w' ⟨rfl, rfl⟩)
          | (go_at_call 15; refine (refPlain_nat k false _ hlt HB.out).mono ?_; rintro e w' ⟨rfl, rfl⟩))
        go_round
        case rel => exact ⟨k + 1, by omega, by go_num⟩
        case measure => simp [intOf]; omega
    · go_wp2_with fail
      refine (encode_any s w5 (hd.below hb5' h0) (by omega)).mono ?_
      rintro e w6 ⟨rfl, hb6⟩
      have hb6' : Below w.heap.size w w6 := hb5'.trans (hb6.mono hb5'.size)
      clear hb6 hb5'
      go_wp2_with fail
      refine (refEncode_any s w6 (by omega)).mono ?_
      rintro e w7 ⟨rfl, n, rfl⟩
      go_wp2
      go_ret
      exact ⟨rfl, below_drewN hb6' n⟩

theorem pctTells_any (s : ByteArray) (p : Bool) (w : World) (hd : Digs w) : Calls Tryd.prog 3 #[.string s, .bool p] w (AwakePost w) := by
  by_cases hs : s.size ≤ 400
  · exact pctTells_short s p w hd hs
  · exact pctTells_long s p w hd (by omega)
end Go.Proofs.YtlibjaggbhmkkaaDoor
