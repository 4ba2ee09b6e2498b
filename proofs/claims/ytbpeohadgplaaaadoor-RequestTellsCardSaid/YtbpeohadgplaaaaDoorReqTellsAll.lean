/- What the statement RequestTells answers, whatever comes in: true, where the variables that it reaches read as their texts lay them. -/
import Derived.Test.YtbpeohadgplaaaaDoorReqTellsWalk
namespace Go.Proofs.YtbpeohadgplaaaaDoor
set_option maxRecDepth 8000
open Go.RowKit

set_option maxHeartbeats 1600000 in
theorem requestTells_any (m t : List UInt8) (A : Option Addr) (cap : Nat) (l : List Pct.PairL) (b : List UInt8) (s1 s2 : ByteArray) (w : World) (he : EnvR w) (hl : PCells w w.heap.size A l) (hm : l.length ≤ 9223372036854775807) :
    Calls Tryd.prog 5 #[.agg #[.string (S m), .string (S t), .slice A l.length cap, .string (S b)], .string s1, .string s2] w (AwakePost w) := by
  obtain ⟨nm, hnm⟩ : ∃ nm, nm = s1.data.toList := ⟨_, rfl⟩
  have hs1 : s1 = S nm := by rw [hnm]; rfl
  obtain ⟨ot, hot⟩ : ∃ ot, ot = s2.data.toList := ⟨_, rfl⟩
  have hs2 : s2 = S ot := by rw [hot]; rfl
  clear hnm hot
  subst hs1 hs2
  by_cases hall : fewRB m t l b = true ∧ nm.length ≤ 100 ∧ ot.length ≤ 100
  · exact tells_few m t A cap l b nm ot w he hl hm hall.1 hall.2.1 hall.2.2
  · have h0 := HasR.new (m := m) (t := t) (b := b) (cap := cap) hl
    have hb0 := below_alloc w (.cells #[.string (S m), .string (S t), .slice A l.length cap, .string (S b)] 33)
    have he0 := he.next hb0
    have HFW := Lib.hid (fun w' h => fewR_to m t A cap l b (fewRB m t l b) w' h hm rfl)
    generalize hW : w.alloc (.cells #[.string (S m), .string (S t), .slice A l.length cap, .string (S b)] 33) = w0 at h0 hb0 he0
    go_enter Tryd.func5, Tryd.ntmps5
    go_wp2_with fail
    refine (awake_req w0 he0).mono ?_
    rintro e w1 ⟨rfl, hb1⟩
    have h1 := h0.next hb1
    have hb1' := below_step hb0 hb1
    clear h0 he0 hb0 hb1 hW
    obtain ⟨c0, c1, c2, c3⟩ := h1.cells
    go_wp2_with fail
    refine (HFW.out w1 h1.row).mono ?_
    rintro e w2 ⟨rfl, hb2⟩
    have hb2' := below_step hb1' hb2
    clear c0 c1 c2 c3
    have zn : (S nm).size = nm.length := rfl
    have zo : (S ot).size = ot.length := rfl
    cases hf : fewRB m t l b with
    | false =>
      clear hall hf zn zo
      go_wp2
      go_ret
      exact ⟨rfl, hb2'⟩
    | true =>
      by_cases hn : 100 < (S nm).size
      · clear hall hf zn zo
        go_wp2
        go_ret
        exact ⟨rfl, hb2'⟩
      · have ho : 100 < (S ot).size := by
          rcases Nat.lt_or_ge 100 (S ot).size with h | h
          · exact h
          · exact absurd ⟨hf, by omega, by omega⟩ hall
        clear hall hf zn zo
        go_wp2
        go_ret
        exact ⟨rfl, hb2'⟩
end Go.Proofs.YtbpeohadgplaaaaDoor
