/- Plain lists alone: a response that can be is read as it was written; no two are written alike, and none as the beginning of another one. No condition. -/
import Derived.Test.YtehgigfngelkjaaDoorEo
namespace Go.Proofs.YtehgigfngelkjaaDoor
set_option maxRecDepth 8000
namespace Rsp
open Pct (PairL)

def firstLine (s : Int) : Bytes := [72, 84, 84, 80, 47, 49, 46, 49, 32] ++ Lib.decDigits s.toNat ++ [32] ++ reason s
def hline (q : PairL) : Bytes := q.1 ++ (sep2 ++ q.2)
def Ls (s : Int) (l : List PairL) (b : Bytes) : List Bytes := firstLine s :: (all l b).map hline

theorem reason_known {s : Int} (h : (reason s).isEmpty = false) : s = 200 ∨ s = 302 ∨ s = 400 ∨ s = 403 ∨ s = 404 ∨ s = 405 ∨ s = 503 := by
  unfold reason at h
  by_cases h0 : s = 200; · exact .inl h0
  by_cases h1 : s = 302; · exact .inr (.inl h1)
  by_cases h2 : s = 400; · exact .inr (.inr (.inl h2))
  by_cases h3 : s = 403; · exact .inr (.inr (.inr (.inl h3)))
  by_cases h4 : s = 404; · exact .inr (.inr (.inr (.inr (.inl h4))))
  by_cases h5 : s = 405; · exact .inr (.inr (.inr (.inr (.inr (.inl h5)))))
  by_cases h6 : s = 503; · exact .inr (.inr (.inr (.inr (.inr (.inr h6)))))
  rw [if_neg h0, if_neg h1, if_neg h2, if_neg h3, if_neg h4, if_neg h5, if_neg h6] at h
  cases h
theorem first_ok {s : Int} (h : (reason s).isEmpty = false) : (firstLine s).all (fun x => !(x == 13)) = true ∧ (firstLine s).isEmpty = false ∧ gs (firstLine s) = s := by
  rcases reason_known h with rfl | rfl | rfl | rfl | rfl | rfl | rfl
  all_goals exact ⟨by decide +kernel, by decide +kernel, by decide +kernel⟩
theorem tok_no (c : UInt8) (h : Ck.tokB c = true) : c ≠ 13 ∧ c ≠ 58 := by
  have := Ck.byte_all (P := fun c => !(Ck.tokB c) || (!(c == 13) && !(c == 58))) (by decide +kernel) c
  rw [h] at this
  simpa using this
theorem in_no (c : UInt8) (h : Req.inB 32 126 c = true) : c ≠ 13 := by
  rintro rfl
  exact absurd h (by decide)
theorem dec_no (n : Nat) : ∀ x ∈ Lib.decDigits n, x ≠ 13 := by
  intro x hx
  rintro rfl
  have := Ck.dec_range n 13 hx
  exact absurd this (by decide)
theorem hdr_parts {q : PairL} (h : hdrOk q = true) : (∀ x ∈ q.1, x ≠ 13 ∧ x ≠ 58) ∧ (∀ x ∈ q.2, x ≠ 13) := by
  unfold hdrOk at h
  simp only [Bool.and_eq_true] at h
  obtain ⟨⟨h1, h2⟩, _⟩ := h
  unfold Ck.token at h1
  rw [Bool.and_eq_true] at h1
  unfold Req.isText Req.within at h2
  rw [Bool.and_eq_true] at h2
  exact ⟨fun x hx => tok_no x (List.all_eq_true.1 h1.2 x hx), fun x hx => in_no x (List.all_eq_true.1 h2.1 x hx)⟩
theorem hline_ok {q : PairL} (h1 : ∀ x ∈ q.1, x ≠ 13 ∧ x ≠ 58) (h2 : ∀ x ∈ q.2, x ≠ 13) : lineOk (hline q) ∧ hdrOf (hline q) = q := by
  refine ⟨⟨by unfold hline sep2; simp, fun x hx => ?_⟩, ?_⟩
  · rcases List.mem_append.1 hx with hx | hx
    · exact (h1 x hx).1
    · rcases List.mem_append.1 hx with hx | hx
      · unfold sep2 at hx
        simp at hx
        rcases hx with rfl | rfl <;> decide
      · exact h2 x hx
  · unfold hdrOf hline
    rw [show sep2 = 58 :: [32] from rfl, cut_clean 58 [32] q.2 q.1 (fun x hx => (h1 x hx).2)]
theorem right_all {s : Int} {l : List PairL} {b : Bytes} (h : right s l b = true) : (reason s).isEmpty = false ∧ (∀ q ∈ l, hdrOk q = true) := by
  unfold right top at h
  simp only [Bool.and_eq_true, decide_eq_true_eq, Bool.not_eq_true'] at h
  exact ⟨h.1.1.1, fun q hq => List.all_eq_true.1 h.2 q hq⟩
theorem len_ok (b : Bytes) : lineOk (hline (lenName, Lib.decDigits b.length)) := (hline_ok (q := (lenName, Lib.decDigits b.length)) (by
  intro x hx
  have : (lenName.all fun x => !(x == 13) && !(x == 58)) = true := by decide +kernel
  have := List.all_eq_true.1 this x hx
  simpa using this) (dec_no _)).1
theorem Ls_ok {s : Int} {l : List PairL} {b : Bytes} (h : right s l b = true) : ∀ a ∈ Ls s l b, lineOk a := by
  obtain ⟨h1, h2⟩ := right_all h
  intro a ha
  rcases List.mem_cons.1 ha with rfl | ha
  · obtain ⟨k1, k2, _⟩ := first_ok h1
    refine ⟨fun e => (by rw [e] at k2; cases k2), fun x hx => ?_⟩
    have := List.all_eq_true.1 k1 x hx
    simpa using this
  · obtain ⟨q, hq, rfl⟩ := List.mem_map.1 ha
    rcases List.mem_append.1 hq with hq | hq
    · have := hdr_parts (h2 q hq)
      exact (hline_ok this.1 this.2).1
    · rw [List.mem_singleton] at hq
      rw [hq]
      exact len_ok b
theorem write_join (s : Int) (l : List PairL) (b : Bytes) : write s l b = join (Ls s l b) ++ (gap ++ b) := by
  have h := lns_join (Ls s l b) (by simp [Ls])
  have e : write s l b = lns (Ls s l b) ++ ([13, 10] ++ b) := by
    unfold write lns Ls
    rw [List.flatMap_cons]
    have e1 : first s = firstLine s ++ [13, 10] := rfl
    have e2 : hds (all l b) = ((all l b).map hline).flatMap fun a => a ++ [13, 10] := by
      unfold hds
      rw [List.flatMap_map]
      congr 1
      funext q
      simp [hd, hline, sep2]
    rw [e1, e2]
  rw [e, h]
  simp [gap]
theorem lines_write {s : Int} {l : List PairL} {b : Bytes} (h : right s l b = true) : lines (write s l b) = Ls s l b ∧ guessB (write s l b) = b := by
  have hc := cut_gap b (Ls s l b) (by simp [Ls]) (Ls_ok h)
  unfold lines guessB
  rw [write_join, hc]
  exact ⟨pieces_join _ (by simp [Ls]) (fun a ha => (Ls_ok h a ha).2), rfl⟩
theorem guess_write {s : Int} {l : List PairL} {b : Bytes} (h : right s l b = true) : guessS (write s l b) = s ∧ guessL (write s l b) = l ∧ guessB (write s l b) = b := by
  obtain ⟨h1, h2⟩ := lines_write h
  obtain ⟨k1, k2⟩ := right_all h
  refine ⟨?_, ?_, h2⟩
  · unfold guessS
    rw [h1]
    exact (first_ok k1).2.2
  · unfold guessL
    rw [h1]
    have e1 : (Ls s l b).drop 1 = l.map hline ++ [hline (lenName, Lib.decDigits b.length)] := by simp [Ls, all]
    have e2 : (Ls s l b).length - 2 = (l.map hline).length := by simp [Ls, all]
    rw [e1, e2, List.take_left, List.map_map]
    have : ∀ q ∈ l, (hdrOf ∘ hline) q = id q := fun q hq => by
      have := hdr_parts (k2 q hq)
      exact (hline_ok this.1 this.2).2
    rw [List.map_congr_left this, List.map_id]
/-- What is written reads as it was. -/
theorem read_write {s : Int} {l : List PairL} {b : Bytes} (h : right s l b = true) : read (write s l b) = some (s, l, b) := by
  obtain ⟨h1, h2, h3⟩ := guess_write h
  unfold read
  rw [h1, h2, h3, if_pos ⟨h, rfl⟩]
theorem read_some {t : Bytes} {s : Int} {l : List PairL} {b : Bytes} (h : read t = some (s, l, b)) : right s l b = true ∧ write s l b = t := by
  unfold read at h
  split at h
  · rename_i hc
    simp only [Option.some.injEq, Prod.mk.injEq] at h
    obtain ⟨h1, h2, h3⟩ := h
    subst h1 h2 h3
    exact hc
  · cases h
end Rsp
end Go.Proofs.YtehgigfngelkjaaDoor
