/- What the statement TicketMints keeps from round to round. -/
import Derived.Test.YtihfpockmginfaaDoorTkMc
import Derived.Test.YtihfpockmginfaaDoorTkI
namespace Go.Proofs.YtihfpockmginfaaDoor
set_option maxRecDepth 8000
open Go.RowKit

theorem MS.other {w w' : World} {b N P : Nat} {R : List Nat} (h : MS w b N P R) (hs : w.heap.size ≤ w'.heap.size) (hb : ∀ i, i < w.heap.size → b ≤ i → w'.heap[i]? = w.heap[i]?) : MS w' b N P R := by
  obtain ⟨g, off, cap, h1, h2, h3, h4, h5, h6, h7, h8, h9⟩ := h.obj
  have hg := hb g h7 h5
  refine ⟨h.lo, g, off, cap, (hb P (lt_of_blk h1) h.lo).trans h1, h2, h3, h4, h5, h6, Nat.lt_of_lt_of_le h7 hs, fun j hj => ?_, fun j hj => ?_⟩
  · rw [World.cell?_of_block (a := ⟨g, off + j, none⟩) hg]
    exact h8 j hj
  · rw [World.cell?_of_block (a := ⟨g, off + R.length + j, none⟩) hg, World.frozen?_of_block (a := ⟨g, off + R.length + j, none⟩) hg]
    exact h9 j hj
theorem MS.weaken {w : World} {b b' N N' P : Nat} {R : List Nat} (h : MS w b N P R) (hb : b' ≤ b) (hN : w.heap.size ≤ N') : MS w b' N' P R := by
  obtain ⟨g, off, cap, h1, h2, h3, h4, h5, h6, h7, h8, h9⟩ := h.obj
  exact ⟨Nat.le_trans hb h.lo, g, off, cap, h1, h2, h3, h4, by omega, by omega, h7, h8, h9⟩
theorem MR.other {w w' : World} {b P : Nat} {R : List Nat} (h : MR w b P R) (hs : w.heap.size ≤ w'.heap.size) (hb : ∀ i, i < w.heap.size → b ≤ i → w'.heap[i]? = w.heap[i]?) : MR w' b P R := by
  obtain ⟨A, cap, h1, h2, h3, h4⟩ := h.obj
  refine ⟨h.lo, A, cap, (hb P (lt_of_blk h1) h.lo).trans h1, h2, h3, fun hp => ?_⟩
  obtain ⟨g, off, e, q1, q2, q3, q4⟩ := h4 hp
  refine ⟨g, off, e, q1, q2, Nat.lt_of_lt_of_le q3 hs, fun j hj => ?_⟩
  rw [World.cell?_of_block (a := ⟨g, off + j, none⟩) (hb g q3 q2)]
  exact q4 j hj
theorem always_any (b : Bool) (w : World) : Calls Tryd.prog 22 #[.bool b] w fun e w' => e = .returned (fnV b) ∧ w' = w := by
  cases b with
  | true =>
    go_enter Tryd.func22, Tryd.ntmps22
    go_wp2
    go_ret
    exact ⟨rfl, rfl⟩
  | false =>
    go_enter Tryd.func22, Tryd.ntmps22
    go_wp2
    go_ret
    exact ⟨rfl, rfl⟩

/-- What stays: the call's arguments below, and all draws in a row of their own. -/
structure LS (w wx : World) (N P H : Nat) (all : List Nat) : Prop where
  below : Below w.heap.size w wx
  lo : N ≤ H
  lt : H < wx.heap.size
  PN : P < N
  bP : w.heap.size ≤ P
  cells : ∀ j (h : j < all.length), wx.cell? ⟨H, j, none⟩ = some (U all[j])
theorem LS.kb {w wx w' : World} {N P H : Nat} {all : List Nat} (h : LS w wx N P H all) (k : KB wx w' P) : LS w w' N P H all :=
  ⟨k.below h.below h.bP h.below.size, h.lo, Nat.lt_of_lt_of_le h.lt k.size, h.PN, h.bP, fun j hj => (k.cell h.lt (by have := h.lo; have := h.PN; omega)).trans (h.cells j hj)⟩
theorem LS.kn {w wx w' : World} {N P H : Nat} {all : List Nat} (h : LS w wx N P H all) (k : KN wx w' w.heap.size N) : LS w w' N P H all :=
  ⟨h.below.trans ⟨k.os, k.tape, k.output, k.size, fun i hi => k.block i (Nat.lt_of_lt_of_le hi h.below.size) (.inl hi)⟩, h.lo, Nat.lt_of_lt_of_le h.lt k.size, h.PN, h.bP, fun j hj => by
    rw [World.cell?_of_block (a := ⟨H, j, none⟩) (k.block H h.lt (.inr h.lo))]
    exact h.cells j hj⟩
theorem LS.next {w wx w' : World} {N P H : Nat} {all : List Nat} (h : LS w wx N P H all) (hb : Below wx.heap.size wx w') : LS w w' N P H all := h.kb (KB.of_below hb)
/-- The mint, ahead of what is fed and behind it. -/
def St (w wx : World) (N P hf at_ : Nat) (D all : List Nat) (i : Nat) : Prop := (i < hf ∧ at_ ≤ D.length ∧ MS wx w.heap.size N P (D.drop at_)) ∨ (hf ≤ i ∧ at_ ≤ all.length ∧ MR wx w.heap.size P (all.drop at_))
theorem St.other {w wx w' : World} {N P hf at_ i : Nat} {D all : List Nat} (h : St w wx N P hf at_ D all i) (hb : Below wx.heap.size wx w') : St w w' N P hf at_ D all i := by
  rcases h with ⟨h1, h2, h3⟩ | ⟨h1, h2, h3⟩
  · exact .inl ⟨h1, h2, h3.other hb.size (fun i hi _ => hb.block i hi)⟩
  · exact .inr ⟨h1, h2, h3.other hb.size (fun i hi _ => hb.block i hi)⟩
/-- How many draws there are by now. -/
def thereN (hf i : Nat) (D all : List Nat) : Nat := if i < hf then D.length else all.length
theorem St.read {w wx : World} {N P hf at_ i : Nat} {D M : List Nat} (h : St w wx N P hf at_ D (D ++ M) i) : ∃ R, MR wx w.heap.size P R ∧ at_ + R.length = thereN hf i D (D ++ M) ∧ (∀ j (hj : j < R.length), (D ++ M)[at_ + j]? = some R[j]) ∧
    (∀ d R', R = d :: R' → ∀ w', MR w' w.heap.size P R' → (∀ N, MS wx w.heap.size N P (d :: R') → MS w' w.heap.size N P R') → St w w' N P hf (at_ + 1) D (D ++ M) i) := by
  unfold thereN
  rcases h with ⟨h1, h2, h3⟩ | ⟨h1, h2, h3⟩
  · refine ⟨D.drop at_, h3.reads, by rw [if_pos h1, List.length_drop]; omega, fun j hj => ?_, fun d R' e w' _ hS => ?_⟩
    · rw [List.length_drop] at hj
      rw [List.getElem?_append_left (by omega), List.getElem_drop, List.getElem?_eq_getElem (by omega)]
    · have hl : at_ < D.length := by
        have := congrArg List.length e
        rw [List.length_drop, List.length_cons] at this
        omega
      rw [e] at h3
      have e2 : D.drop (at_ + 1) = R' := by rw [← List.drop_drop, e]; rfl
      exact .inl ⟨h1, hl, by rw [e2]; exact hS N h3⟩
  · refine ⟨(D ++ M).drop at_, h3, by rw [if_neg (by omega), List.length_drop]; omega, fun j hj => ?_, fun d R' e w' hR _ => ?_⟩
    · rw [List.length_drop] at hj
      rw [List.getElem_drop, List.getElem?_eq_getElem (by omega)]
    · have hl : at_ < (D ++ M).length := by
        have := congrArg List.length e
        rw [List.length_drop, List.length_cons] at this
        omega
      have e2 : (D ++ M).drop (at_ + 1) = R' := by rw [← List.drop_drop, e]; rfl
      exact .inr ⟨h1, hl, by rw [e2]; exact hR⟩
end Go.Proofs.YtihfpockmginfaaDoor
