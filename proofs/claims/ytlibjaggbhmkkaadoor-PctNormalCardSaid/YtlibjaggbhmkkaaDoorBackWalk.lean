/- What the statement's own function PctBack does: it answers true for every text and either way of reading +, where the table of digits reads as its text lays it. -/
import Derived.Test.YtlibjaggbhmkkaaDoorWalkI
namespace Go.Proofs.YtlibjaggbhmkkaaDoor
open Go.RowKit

set_option maxHeartbeats 400000 in
theorem pctBack_long (s : ByteArray) (p : Bool) (w : World) (hd : Digs w) (hs : 400 < s.size) :
    Calls Tryd.prog 5 #[.string s, .bool p] w (AwakePost w) := by
  go_enter Tryd.func5, Tryd.ntmps5
  go_wp2_with (go_at_call 9; refine (awake_any w hd).mono ?_; rintro e w1 ⟨rfl, hb1⟩)
  go_ret
  exact ⟨rfl, hb1⟩

theorem decode_str (t u : ByteArray) (p : Bool) (w : World) (hd : Digs w) (hl : t.size ≤ 1073741824) (h : Pct.dec p t.data.toList = some u.data.toList) :
    Calls Tryd.prog 10 #[.string t, .bool p] w fun e w' => e = .returned (.tuple #[.string u, .int .i64 0]) ∧ Below w.heap.size w w' :=
  (decode_any t p w hd hl).mono fun e w' ⟨he, hb⟩ => ⟨by rw [he, h]; rfl, hb⟩

theorem enc_at {l : List UInt8} {t : ByteArray} (h : t = S (Pct.enc l)) (k : Nat) (hk : k < t.size) : t[k].toNat = 37 ∨ Pct.plainB t[k] = true := by
  subst h
  have hm : (S (Pct.enc l))[k] ∈ Pct.enc l := by
    have : (S (Pct.enc l))[k] = (Pct.enc l)[k]'hk := rfl
    rw [this]
    exact List.getElem_mem _
  have := List.all_eq_true.1 (Pct.enc_ok l) _ hm
  unfold Pct.okB at this
  rcases Bool.or_eq_true_iff.1 this with h | h
  · left
    have : (S (Pct.enc l))[k] = 37 := by simpa using h
    rw [this]
    rfl
  · exact .inr h

set_option maxHeartbeats 400000 in
theorem pctBack_short (s : ByteArray) (p : Bool) (w : World) (hd : Digs w) (hs : s.size ≤ 400) :
    Calls Tryd.prog 5 #[.string s, .bool p] w (AwakePost w) := by
  have h0 := hd.lt
  go_enter Tryd.func5, Tryd.ntmps5
  go_wp2_with (go_at_call 9; refine (awake_any w hd).mono ?_; rintro e w1 ⟨rfl, hb1⟩)
  refine (encode_any s w1 (hd.below hb1 h0) (by omega)).mono ?_
  rintro e w2 ⟨rfl, hb2⟩
  have hb2' : Below w.heap.size w w2 := hb1.trans (hb2.mono hb1.size)
  clear hb2
  obtain ⟨t, ht⟩ : ∃ t, t = S (Pct.enc s.data.toList) := ⟨_, rfl⟩
  rw [← ht]
  have hlen := Pct.enc_len s.data.toList
  have e1 : s.data.toList.length = s.size := by simp
  have e2 : t.size = (Pct.enc s.data.toList).length := by rw [ht]; rfl
  rw [← e2, e1] at hlen
  obtain ⟨hle1, hle2⟩ := hlen
  have hdec : Pct.dec p t.data.toList = some s.data.toList := by rw [ht, S_toList, Pct.dec_enc]
  have HD := Lib.hid hdec
  have HT := Lib.hid ht
  clear e1 e2 ht hdec
  go_wp2_with fail
  refine (decode_str t s p w2 (hd.below hb2' h0) (by omega) HD.out).mono ?_
  rintro e w3 ⟨rfl, hb3⟩
  have hb3' : Below w.heap.size w w3 := hb2'.trans (hb3.mono hb2'.size)
  clear hb3
  go_wp2
  go_loop [9] (fun i => ∃ k : Nat, k ≤ t.size ∧ i = .int .i64 k) (fun i => t.size - (intOf i).toNat)
  case atStart => exact ⟨0, Nat.zero_le _, rfl⟩
  case round =>
    obtain ⟨k, hk, rfl⟩ := hrel
    by_cases hlt : k < t.size
    · rcases enc_at HT.out k hlt with h37 | hpl
      · have hc : ((t[k].toNat : Int) != 37) = false := by rw [h37]; rfl
        clear h37
        go_wp2
        go_round
        case rel => exact ⟨k + 1, by omega, by go_num⟩
        case measure => simp [intOf]; omega
      · have hc : ((t[k].toNat : Int) != 37) = true := by
          have h1 := (Pct.plain_ne _ hpl).1
          have h2 : t[k].toNat ≠ 37 := fun h => h1 (Pct.u8_eq h)
          simp; omega
        have HP := Lib.hid hpl
        clear hpl
        go_wp2_with (go_at_call 15; refine (refPlain_any t[k] _).mono ?_; rintro e w' ⟨rfl, rfl⟩; rw [HP.out])
        go_round
        case rel => exact ⟨k + 1, by omega, by go_num⟩
        case measure => simp [intOf]; omega
    · go_wp2
      go_ret
      exact ⟨ret_bool (by simp; omega), hb3'⟩

theorem pctBack_any (s : ByteArray) (p : Bool) (w : World) (hd : Digs w) : Calls Tryd.prog 5 #[.string s, .bool p] w (AwakePost w) := by
  by_cases hs : s.size ≤ 400
  · exact pctBack_short s p w hd hs
  · exact pctBack_long s p w hd (by omega)
end Go.Proofs.YtlibjaggbhmkkaaDoor
