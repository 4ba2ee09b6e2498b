/- Plain lists alone: what is written reads as it was; what was read can be, and is not longer than what it was read of. -/
import Derived.Test.YtehgigfngelkjaaDoorReqWrite
namespace Go.Proofs.YtehgigfngelkjaaDoor
namespace Req
open Pct (Bytes PairL)

theorem dw_same (p : UInt8 → Bool) : ∀ l : Bytes, (∀ c, l.head? = some c → p c = false) → l.dropWhile p = l
  | [], _ => rfl
  | c :: r, h => by rw [List.dropWhile_cons_of_neg (by rw [h c rfl]; simp)]
theorem dw_head (p : UInt8 → Bool) {l : Bytes} (h : l.dropWhile p = l) : ∀ c, l.head? = some c → p c = false := by
  intro c hc
  cases l with
  | nil => cases hc
  | cons d r =>
    cases hc
    cases hp : p c with
    | false => rfl
    | true =>
      rw [List.dropWhile_cons_of_pos hp] at h
      have := (List.dropWhile_sublist p (l := r)).length_le
      rw [h] at this
      simp at this
      omega
theorem trimS_same {y cs : Bytes} (h : Lib.trimS y cs = y) : (∀ c, y.head? = some c → cs.contains c = false) ∧ (∀ c, y.reverse.head? = some c → cs.contains c = false) := by
  have hz : y.reverse.dropWhile (cs.contains ·) = y.reverse := by
    have h1 : (y.reverse.dropWhile (cs.contains ·)) <:+ y.reverse := List.dropWhile_suffix _
    refine h1.eq_of_length ?_
    have h2 := h1.length_le
    have h3 : y.length ≤ (y.reverse.dropWhile (cs.contains ·)).reverse.length := by
      have := (List.dropWhile_sublist (cs.contains ·) (l := (y.reverse.dropWhile (cs.contains ·)).reverse)).length_le
      have e : (y.reverse.dropWhile (cs.contains ·)).reverse.dropWhile (cs.contains ·) = y := h
      rw [e] at this
      exact this
    simp only [List.length_reverse] at h2 h3 ⊢
    omega
  refine ⟨?_, dw_head _ hz⟩
  have e : (y.reverse.dropWhile (cs.contains ·)).reverse.dropWhile (cs.contains ·) = y := h
  rw [hz, List.reverse_reverse] at e
  exact dw_head _ e
theorem within_mem {lo hi : Nat} {s : Bytes} (h : within lo hi s = true) {c : UInt8} (hc : c ∈ s) : lo ≤ c.toNat ∧ c.toNat ≤ hi :=
  of_decide_eq_true (List.all_eq_true.1 h c hc)
theorem two_one (c : UInt8) (h1 : [32].contains c = false) (h2 : 32 ≤ c.toNat) : [32, 9].contains c = false := by
  have := byte_all (P := fun c => ([32].contains c) || !(decide (32 ≤ c.toNat)) || !([32, 9].contains c)) (by decide +kernel) c
  simp only [h1, decide_eq_true h2, Bool.not_true, Bool.false_or, Bool.not_eq_true', Bool.or_false] at this
  exact this
theorem text_ends {y : Bytes} (h : isText y = true) : (∀ c, y.head? = some c → [32, 9].contains c = false) ∧ (∀ c, y.reverse.head? = some c → [32, 9].contains c = false) := by
  unfold isText at h
  rw [Bool.and_eq_true, beq_iff_eq] at h
  obtain ⟨h1, h2⟩ := trimS_same h.2
  refine ⟨fun c hc => two_one c (h1 c hc) (within_mem h.1 (List.mem_of_mem_head? hc)).1, fun c hc => two_one c (h2 c hc) (within_mem h.1 (List.mem_reverse.1 (List.mem_of_mem_head? hc))).1⟩
theorem trim_text {y : Bytes} (h : isText y = true) : trim (32 :: y) = y := by
  obtain ⟨h1, h2⟩ := text_ends h
  unfold trim Lib.trimS Lib.trimLeftS Lib.trimRightS
  cases y with
  | nil => rfl
  | cons c r =>
    have e : (32 :: c :: r).reverse.dropWhile (List.contains [32, 9] ·) = (32 :: c :: r).reverse := by
      refine dw_same _ _ fun d hd => h2 d ?_
      rw [List.reverse_cons] at hd
      rw [List.head?_append] at hd
      cases hh : (c :: r).reverse.head? with
      | none =>
        have := List.head?_eq_none_iff.1 hh
        simp at this
      | some x => rw [hh] at hd; exact hd
    rw [e, List.reverse_reverse, List.dropWhile_cons_of_pos (by decide)]
    exact dw_same _ _ h1

theorem tok_not (c : UInt8) (h : tokB c = true) : c ≠ 13 ∧ c ≠ 58 := by
  have := byte_all (P := fun c => !(tokB c) || (!(c == 13) && !(c == 58))) (by decide +kernel) c
  rw [h] at this
  simpa using this
theorem line_hline (q : PairL) (rest : Bytes) (h : headOk q = true) : line (hline [32] q ++ rest) = some (q.1 ++ 58 :: 32 :: q.2, rest) ∧ header (q.1 ++ 58 :: 32 :: q.2) = some q := by
  unfold headOk at h
  rw [Bool.and_eq_true] at h
  have ht : q.1.all tokB = true := by
    have := h.1
    unfold token at this
    rw [Bool.and_eq_true] at this
    exact this.2
  have h58 : ∀ x ∈ q.1, x ≠ 58 := fun x hx => (tok_not x (List.all_eq_true.1 ht x hx)).2
  have hw : within 32 126 q.2 = true := by
    have := h.2
    unfold isText at this
    rw [Bool.and_eq_true] at this
    exact this.1
  constructor
  · have e : hline [32] q ++ rest = (q.1 ++ 58 :: 32 :: q.2) ++ 13 :: 10 :: rest := by simp [hline]
    rw [e]
    refine line_clean rest _ fun x hx => ?_
    rcases List.mem_append.1 hx with hx | hx
    · exact (tok_not x (List.all_eq_true.1 ht x hx)).1
    · rcases List.mem_cons.1 hx with rfl | hx
      · decide
      · rcases List.mem_cons.1 hx with rfl | hx
        · decide
        · rintro rfl
          have := (within_mem hw hx).1
          exact absurd this (by decide)
  · unfold header
    rw [Pct.cutAt_first 58 (32 :: q.2) q.1 h58]
    simp only [trim_text h.2, h.1, h.2, Bool.and_true, if_true]
theorem heads_text (b : Bytes) : ∀ (hs : List PairL) (k : Nat), hs.length ≤ k → hs.all headOk = true → heads k (headText [32] hs ++ ([13, 10] ++ b)) = .ok (hs, b)
  | [], k, _, _ => by
    have : headText [32] [] ++ ([13, 10] ++ b) = 13 :: 10 :: b := rfl
    rw [this, heads, line_hit]
    simp
  | q :: hs, 0, h, _ => by simp at h
  | q :: hs, k + 1, h, ha => by
    rw [List.all_cons, Bool.and_eq_true] at ha
    have e : headText [32] (q :: hs) ++ ([13, 10] ++ b) = hline [32] q ++ (headText [32] hs ++ ([13, 10] ++ b)) := by simp [headText]
    obtain ⟨h1, h2⟩ := line_hline q (headText [32] hs ++ ([13, 10] ++ b)) ha.1
    have ih := heads_text b hs k (by simpa using h) ha.2
    have hne : ¬ (q.1 ++ 58 :: 32 :: q.2 = []) := by simp
    rw [e, heads, h1]
    simp only [hne, if_false, h2, ih]
    rfl

theorem known_is {m : Bytes} (h : known m = true) : m = get ∨ m = post := by
  unfold known at h
  simpa using h
theorem first_top {m t : Bytes} (h1 : known m = true) (h2 : isTarget t = true) : first (m ++ [32] ++ t ++ [32] ++ version) = .ok (m, t) := by
  have hm : (∀ x ∈ m, x ≠ 32) ∧ isMethod m = true := by
    rcases known_is h1 with rfl | rfl
    · exact ⟨by decide, by decide⟩
    · exact ⟨by decide, by decide⟩
  have ht : ∀ x ∈ t, x ≠ 32 := by
    rintro x hx rfl
    unfold isTarget at h2
    rw [Bool.and_eq_true] at h2
    exact absurd (within_mem h2.2 hx).1 (by decide)
  have hs : Pct.split 32 (m ++ [32] ++ t ++ [32] ++ version) = [m, t, version] := by
    have e : m ++ [32] ++ t ++ [32] ++ version = m ++ 32 :: (t ++ 32 :: version) := by simp
    rw [e, Pct.split_append, Pct.split_append, Pct.split_none 32 m hm.1, Pct.split_none 32 t ht, Pct.split_none 32 version (by decide)]
    rfl
  unfold first
  rw [hs]
  simp only [hm.2, h2, h1, Bool.and_self, beq_self_eq_true, if_true]
theorem top_no13 {m t : Bytes} (h1 : known m = true) (h2 : isTarget t = true) : ∀ x ∈ m ++ [32] ++ t ++ [32] ++ version, x ≠ 13 := by
  intro x hx
  have hm : ∀ x ∈ m, x ≠ 13 := by
    rcases known_is h1 with rfl | rfl
    · decide
    · decide
  rcases List.mem_append.1 hx with hx | hx
  · rcases List.mem_append.1 hx with hx | hx
    · rcases List.mem_append.1 hx with hx | hx
      · rcases List.mem_append.1 hx with hx | hx
        · exact hm x hx
        · simp at hx; rw [hx]; decide
      · rintro rfl
        unfold isTarget at h2
        rw [Bool.and_eq_true] at h2
        exact absurd (within_mem h2.2 hx).1 (by decide)
    · simp at hx; rw [hx]; decide
  · rintro rfl
    exact absurd hx (by decide)

theorem right_parts {r : R} (h : right r = true) : r.heads.length ≤ 32 ∧ fewest r ≤ 4096 ∧ known r.method = true ∧ isTarget r.target = true ∧ r.heads.all headOk = true ∧ bodyLen r.heads = some r.body.length := by
  unfold right at h
  simp only [Bool.and_eq_true, decide_eq_true_eq, beq_iff_eq] at h
  exact ⟨h.1.1.1.1.1, h.1.1.1.1.2, h.1.1.1.2, h.1.1.2, h.1.2, h.2⟩
theorem parse_text {r : R} (h : right r = true) (hl : ¬ 4096 < fewest r + r.heads.length) : parse (text [32] r) = .ok r := by
  obtain ⟨h1, h2, h3, h4, h5, h6⟩ := right_parts h
  have hlen : ¬ 4096 < (text [32] r).length := by
    rw [text_len]
    simp only [List.length_cons, List.length_nil]
    omega
  have hline : line (text [32] r) = some (r.method ++ [32] ++ r.target ++ [32] ++ version, headText [32] r.heads ++ ([13, 10] ++ r.body)) := by
    have e : text [32] r = (r.method ++ [32] ++ r.target ++ [32] ++ version) ++ 13 :: 10 :: (headText [32] r.heads ++ ([13, 10] ++ r.body)) := by simp [text, top]
    rw [e]
    exact line_clean _ _ (top_no13 h3 h4)
  unfold parse
  rw [if_neg hlen, hline]
  simp only [first_top h3 h4, heads_text r.body r.heads 32 h1 h5, h6, Nat.lt_irrefl, if_false]

/-! ### What was read -/
theorem trim_le (l : Bytes) : (trim l).length ≤ l.length := by
  unfold trim Lib.trimS Lib.trimLeftS Lib.trimRightS
  have h1 := (List.dropWhile_sublist (List.contains [32, 9] ·) (l := l.reverse)).length_le
  have h2 := (List.dropWhile_sublist (List.contains [32, 9] ·) (l := (l.reverse.dropWhile (List.contains [32, 9] ·)).reverse)).length_le
  simp only [List.length_reverse] at h1 h2
  omega
theorem cut_sum (c : UInt8) : ∀ l : Bytes, (Pct.cutAt c l).2.2 = true → (Pct.cutAt c l).1.length + (Pct.cutAt c l).2.1.length + 1 = l.length
  | [], h => by simp [Pct.cutAt] at h
  | x :: r, h => by
    by_cases hx : x = c
    · rw [hx, Pct.cutAt_hit]; simp
    · rw [Pct.cutAt_other c x r hx] at h ⊢
      have := cut_sum c r h
      simp only [List.length_cons] at this ⊢
      omega
theorem header_is {l : Bytes} {q : PairL} (h : header l = some q) : headOk q = true ∧ q.1.length + q.2.length + 1 ≤ l.length := by
  unfold header at h
  split at h
  · rename_i hc
    cases h
    rw [Bool.and_eq_true, Bool.and_eq_true] at hc
    have h1 := cut_sum 58 l hc.1.1
    have h2 := trim_le (Pct.cutAt 58 l).2.1
    refine ⟨?_, by simp only; omega⟩
    unfold headOk
    simp only [hc.1.2, hc.2, Bool.and_self]
  · cases h
theorem heads_is : ∀ (k : Nat) (r : Bytes) (hs : List PairL) (b : Bytes), heads k r = .ok (hs, b) → hs.length ≤ k ∧ hs.all headOk = true ∧ sumH hs + 2 + b.length ≤ r.length
  | k, r, hs, b, h => by
    rw [heads] at h
    split at h
    · cases h
    · rename_i l r' hl
      have hlen := line_len hl
      split at h
      · cases h
        exact ⟨by simp, rfl, by simp only [sumH]; omega⟩
      · split at h
        · cases h
        · split at h
          · cases h
          · rename_i k _ q hq
            cases hh : heads k r' with
            | error e => rw [hh] at h; cases h
            | ok p =>
              rw [hh] at h
              obtain ⟨hs', b'⟩ := p
              cases h
              obtain ⟨i1, i2, i3⟩ := heads_is k r' hs' b' hh
              obtain ⟨j1, j2⟩ := header_is hq
              refine ⟨by simp; omega, by rw [List.all_cons, j1, i2]; rfl, ?_⟩
              simp only [sumH]
              omega
theorem split3_len {l m t v : Bytes} (h : Pct.split 32 l = [m, t, v]) : l.length = m.length + t.length + v.length + 2 := by
  have step : ∀ (l p : Bytes) (ps : List Bytes), Pct.split 32 l = p :: ps → ps ≠ [] → ∃ l', Pct.split 32 l' = ps ∧ l.length = p.length + l'.length + 1 := by
    intro l p ps hs hne
    rw [Pct.split_cut] at hs
    split at hs
    · rename_i hc
      cases hs
      exact ⟨_, rfl, by have := cut_sum 32 l hc; omega⟩
    · cases hs
      exact absurd rfl hne
  have last : ∀ (l p : Bytes), Pct.split 32 l = [p] → l = p := by
    intro l p hs
    rw [Pct.split_cut] at hs
    split at hs
    · injection hs with _ h2
      exact absurd h2 (Pct.split_ne 32 _)
    · rename_i hc
      cases hs
      rcases Pct.indexByte_cases l 32 with h | ⟨i, h⟩
      · rw [Pct.cutAt_miss l 32 h]
      · rw [(Pct.cutAt_found l 32 i h).2] at hc
        exact absurd rfl hc
  obtain ⟨l1, h1, e1⟩ := step l m [t, v] h (by simp)
  obtain ⟨l2, h2, e2⟩ := step l1 t [v] h1 (by simp)
  obtain rfl := last l2 v h2
  omega
theorem first_is {l m t : Bytes} (h : first l = .ok (m, t)) : known m = true ∧ isTarget t = true ∧ l.length = m.length + t.length + 10 := by
  unfold first at h
  split at h
  · rename_i m' t' v hs
    split at h
    · rename_i hc
      split at h
      · rename_i hk
        cases h
        simp only [Bool.and_eq_true, beq_iff_eq] at hc
        have := split3_len hs
        rw [hc.2] at this
        exact ⟨hk, hc.1.2, by rw [this]; rfl⟩
      · cases h
    · cases h
  · cases h
theorem parse_right {s : Bytes} {r : R} (h : parse s = .ok r) : right r = true ∧ fewest r ≤ s.length := by
  unfold parse at h
  split at h
  · cases h
  · rename_i hlen
    split at h
    · cases h
    · rename_i a r' hl
      have hll := line_len hl
      split at h
      · cases h
      · rename_i m t hf
        obtain ⟨f1, f2, f3⟩ := first_is hf
        split at h
        · cases h
        · rename_i hs b hh
          obtain ⟨i1, i2, i3⟩ := heads_is 32 r' hs b hh
          split at h
          · cases h
          · rename_i n hb
            split at h
            · cases h
            · split at h
              · cases h
              · rename_i g1 g2
                cases h
                obtain rfl : n = b.length := by omega
                have hfew : fewest ⟨m, t, hs, b⟩ ≤ s.length := by unfold fewest; simp only; omega
                refine ⟨?_, hfew⟩
                unfold right
                simp only [f1, f2, i2, hb, decide_eq_true (p := hs.length ≤ 32) i1, decide_eq_true (p := fewest ⟨m, t, hs, b⟩ ≤ 4096) (by omega), Bool.and_true, beq_self_eq_true]
end Req
end Go.Proofs.YtehgigfngelkjaaDoor
