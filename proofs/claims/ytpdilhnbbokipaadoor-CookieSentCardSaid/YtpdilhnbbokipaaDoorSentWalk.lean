/- The statement CookieSent answers true, for any text and any slice of pairs, where the variables of the library that it reaches read as their texts lay them. -/
import Derived.Test.YtpdilhnbbokipaaDoorLinesWalk
import Derived.Test.YtpdilhnbbokipaaDoorCf
import Derived.Test.YtpdilhnbbokipaaDoorCh
namespace Go.Proofs.YtpdilhnbbokipaaDoor
set_option maxRecDepth 8000
open Go.RowKit

/-- What Sent hands back reads as a list, and has a number. -/
theorem sentPost_both {w w' : World} {r : Except Nat (List Pct.PairL)} {e : Ending} (h : SentPost w r e w') (hlen : ∀ x, r = .ok x → x.length ≤ 20) :
    ∃ (A : Option Addr) (cap : Nat) (x : List Pct.PairL) (n : Nat), e = .returned (.tuple #[.slice A x.length cap, .int .i64 (n : Int)]) ∧ PReads w' w'.heap.size (.slice A x.length cap) x ∧ Below w.heap.size w w' ∧ x.length ≤ 20 ∧ (r = .ok x ∧ n = 0 ∨ r = .error n ∧ x = []) := by
  cases r with
  | ok l =>
    obtain ⟨v, rfl, hrow, hb⟩ := h
    obtain ⟨A, cap, rfl⟩ := hrow.form
    exact ⟨A, cap, l, 0, rfl, hrow.reads, hb, hlen l rfl, .inl ⟨rfl, rfl⟩⟩
  | error n =>
    obtain ⟨rfl, hb⟩ := h
    exact ⟨none, 0, [], n, rfl, ⟨none, 0, rfl, fun h => absurd h (by simp)⟩, hb, by simp, .inr ⟨rfl, rfl⟩⟩

set_option maxHeartbeats 1600000 in
theorem cookieSent_any (s : ByteArray) (A : Option Addr) (cap : Nat) (l : List Pct.PairL) (W : World) (he : EnvC W) (hl : PCells W W.heap.size A l) (hm : l.length ≤ 9223372036854775807) :
    Calls Tryd.prog 3 #[.string s, .slice A l.length cap] W (AwakePost W) := by
  obtain ⟨t, rfl⟩ : ∃ t, s = S t := ⟨s.data.toList, rfl⟩
  go_enter Tryd.func3, Tryd.ntmps3
  go_wp2_with fail
  refine (awake_any W he).mono ?_
  rintro e w ⟨rfl, hb⟩
  have hl1 : PCells w w.heap.size A l := hl.below hb hb.size
  clear hl
  have HL1 := Lib.hid hl1
  go_wp2_with fail
  refine (few_any A cap l w hl1 hm).mono ?_
  rintro e w' ⟨rfl, rfl⟩
  clear hl1
  cases hf : fewB l with
  | false =>
    clear hf
    go_wp2
    go_ret
    exact ⟨rfl, hb⟩
  | true =>
    obtain ⟨hsh, h50⟩ := few_short hf
    have HSH := Lib.hid hsh
    clear hf hsh hm
    by_cases h4 : (S t).size ≤ 400
    · have h4' : t.length ≤ 400 := h4
      have hS := sent_any t w (by omega)
      have hlen := fun x (h : Ck.sent t = .ok x) => Ck.sent_len h
      go_wp2_with fail
      refine hS.mono ?_
      intro e w1 hp
      obtain ⟨A1, cap1, x, n, rfl, hr1, hb1, hx20, hres1⟩ := sentPost_both hp hlen
      have hS2 := refSent_any t w1 (by omega)
      clear hp hS
      go_wp2_with fail
      refine hS2.mono ?_
      intro e w2 hp
      obtain ⟨A2, cap2, y, n2, rfl, hr2, hb2, hy20, hres2⟩ := sentPost_both hp hlen
      have hxy : x = y ∧ n = n2 := by
        rcases hres1 with ⟨h1, h2⟩ | ⟨h1, h2⟩ <;> rcases hres2 with ⟨h3, h4⟩ | ⟨h3, h4⟩
        · rw [h1] at h3
          injection h3 with h3
          exact ⟨h3, by omega⟩
        · rw [h1] at h3; cases h3
        · rw [h1] at h3; cases h3
        · rw [h1] at h3
          injection h3 with h3
          exact ⟨by rw [h2, h4], h3⟩
      obtain ⟨rfl, rfl⟩ := hxy
      clear hres1 hres2 hp hS2 hlen
      have hr1' := (hr1.below hb2).more hb2.size
      have hP := pairs_any _ _ x x w2 hr1' hr2 (by omega)
      rw [show decide (x = x) = true from by simp] at hP
      have hb12 : Below w.heap.size w w2 := hb1.trans (hb2.mono hb1.size)
      have hl2 : PCells w2 w2.heap.size A l := HL1.out.below hb12 hb12.size
      have hW2 : Below W.heap.size W w2 := hb.trans (hb12.mono hb.size)
      clear hr1 hr2 hr1' hb1 hb2 hb12
      go_wp2_with fail
      refine hP.mono ?_
      rintro e w3 ⟨rfl, n3, rfl⟩
      have hb3 : Below w2.heap.size w2 (w2.drewN n3) := below_drewN (Below.refl _ _) n3
      have hLine := line_any A cap l (w2.drewN n3) (hl2.below hb3 hb3.size) HSH.out h50
      generalize w2.drewN n3 = w4 at hb3 hLine ⊢
      have hl4 : PCells w4 w4.heap.size A l := hl2.below hb3 hb3.size
      obtain ⟨z, hz⟩ : ∃ z, z = Ck.line l := ⟨_, rfl⟩
      rw [← hz] at hLine
      have HZ := Lib.hid hz
      clear hz hP hl2
      go_wp2_with fail
      refine hLine.mono ?_
      rintro e w5 ⟨rfl, hb5⟩
      have hL2 := refLine_any A cap l w5 (hl4.below hb5 hb5.size) HSH.out h50
      rw [← HZ.out] at hL2
      go_wp2_with fail
      refine hL2.mono ?_
      rintro e w6 ⟨rfl, hb6⟩
      have hW6 : Below W.heap.size W w6 := hW2.trans (((hb3.trans (hb5.mono hb3.size)).trans (hb6.mono (Nat.le_trans hb3.size hb5.size))).mono hW2.size)
      clear hL2 hLine hb3 hb5 hb6 hW2 hl4
      go_wp2
      go_ret
      exact ⟨rfl, hW6⟩
    · have h4' : (400 : Int) < ((S t).size : Int) := by omega
      clear h4
      go_wp2
      go_ret
      exact ⟨rfl, hb⟩
end Go.Proofs.YtpdilhnbbokipaaDoor
