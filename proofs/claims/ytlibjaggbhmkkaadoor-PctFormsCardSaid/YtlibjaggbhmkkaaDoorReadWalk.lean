/- What the statement's own function PctReads does: it answers true for every slice of pairs, where the table of digits reads as its text lays it. -/
import Derived.Test.YtlibjaggbhmkkaaDoorWriteWalk
namespace Go.Proofs.YtlibjaggbhmkkaaDoor
open Go.RowKit

theorem PCells.reads {w : World} {B : Nat} {A : Option Addr} {l : List Pct.PairL} (h : PCells w B A l) (cap : Nat) : PReads w B (.slice A l.length cap) l := ⟨A, cap, rfl, h⟩
theorem PCells.below {w w' : World} {A : Option Addr} {l : List Pct.PairL} (h : PCells w w.heap.size A l) (hb : Below w.heap.size w w') : PCells w' w'.heap.size A l := by
  intro hn
  obtain ⟨b, off, rfl, hlt, hc⟩ := h hn
  refine ⟨b, off, rfl, Nat.lt_of_lt_of_le hlt hb.size, fun k hk => ?_⟩
  rw [hb.cell (p := ⟨b, off + k * 2, none⟩) hlt, hb.cell (p := ⟨b, off + k * 2 + 1, none⟩) hlt]
  exact hc k hk

theorem few_to (A : Option Addr) (cap : Nat) (l : List Pct.PairL) (o : Bool) (w : World) (hl : PCells w w.heap.size A l) (hm : l.length ≤ 9223372036854775807) (h : fewB l = o) :
    Calls Tryd.prog 18 #[.slice A l.length cap] w fun e w' => e = .returned (.bool o) ∧ w = w' :=
  (few_any A cap l w hl hm).mono fun e w' ⟨he, hw⟩ => ⟨by rw [he, h], hw⟩

set_option maxHeartbeats 400000 in
theorem pctReads_any (A : Option Addr) (cap : Nat) (l : List Pct.PairL) (w : World) (hd : Digs w) (hl : PCells w w.heap.size A l) (hm : l.length ≤ 9223372036854775807) :
    Calls Tryd.prog 7 #[.slice A l.length cap] w (AwakePost w) := by
  have h0 := hd.lt
  cases hf : fewB l with
  | false =>
    have HF := Lib.hid hf
    clear hf
    go_enter Tryd.func7, Tryd.ntmps7
    go_wp2_with fail
    refine (awake_any w hd).mono ?_
    rintro e w1 ⟨rfl, hb1⟩
    go_wp2_with fail
    refine (few_to A cap l false w1 (hl.below hb1) hm HF.out).mono ?_
    rintro e w' ⟨rfl, rfl⟩
    go_wp2
    go_ret
    exact ⟨rfl, hb1⟩
  | true =>
    have h50 : l.length ≤ 50 := by unfold fewB at hf; simp at hf; exact hf.2
    have hlen : (Pct.write l).length ≤ 18100 := by
      have := write_len l (by unfold fewB at hf; simp only [Bool.and_eq_true] at hf; exact hf.1)
      omega
    have HF := Lib.hid hf
    clear hf hm
    obtain ⟨t, ht⟩ : ∃ t, t = Pct.write l := ⟨_, rfl⟩
    rw [← ht] at hlen
    have HT := Lib.hid ht
    clear ht
    go_enter Tryd.func7, Tryd.ntmps7
    go_wp2_with fail
    refine (awake_any w hd).mono ?_
    rintro e w1 ⟨rfl, hb1⟩
    have hl1 := hl.below hb1
    go_wp2_with fail
    refine (few_to A cap l true w1 hl1 (by omega) HF.out).mono ?_
    rintro e w' ⟨rfl, rfl⟩
    go_wp2_with fail
    refine (write_any A cap l w1 (hd.below hb1 h0) hl1 HF.out).mono ?_
    rintro e w2 ⟨rfl, hb2⟩
    have hb2' : Below w.heap.size w w2 := hb1.trans (hb2.mono hb1.size)
    have hl2 := hl1.below hb2
    clear hb2 hl1
    rw [← HT.out]
    by_cases h32 : 32 < l.length
    · have hi32 : (32 : Int) < (l.length : Int) := by omega
      have HE := Lib.hid (show Pct.form t = .error 5 by rw [HT.out]; exact Pct.form_over l h32)
      go_wp2_with fail
      refine (form_error t 5 w2 (hd.below hb2' h0) (by omega) HE.out).mono ?_
      rintro e w3 ⟨rfl, hb3⟩
      have hb3' : Below w.heap.size w w3 := hb2'.trans (hb3.mono hb2'.size)
      go_wp2
      go_ret
      exact ⟨rfl, hb3'⟩
    · have hi32 : ¬ (32 : Int) < (l.length : Int) := by omega
      have HE := Lib.hid (show Pct.form t = .ok l by rw [HT.out]; exact Pct.form_write l (by omega))
      go_wp2_with fail
      refine (form_ok t l w2 (hd.below hb2' h0) (by omega) HE.out).mono ?_
      rintro e w3 ⟨v, rfl, hr, hb3⟩
      have hb3' : Below w.heap.size w w3 := hb2'.trans (hb3.mono hb2'.size)
      have hl3 := (hl2.below hb3).reads cap
      have hr3 := hr.reads
      clear hr hl2 hb3
      go_wp2_with fail
      refine (pairs_any _ v l l w3 hl3 hr3 (by omega)).mono ?_
      rintro e w4 ⟨rfl, n, rfl⟩
      rw [show decide (l = l) = true by simp]
      go_wp2
      go_ret
      exact ⟨rfl, below_drewN hb3' n⟩
end Go.Proofs.YtlibjaggbhmkkaaDoor
