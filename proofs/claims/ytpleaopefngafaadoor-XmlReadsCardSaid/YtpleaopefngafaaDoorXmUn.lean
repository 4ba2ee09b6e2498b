/- How a text is told back byte by byte, as the document does it; no program stands in it. No condition. -/
import Derived.Test.YtpleaopefngafaaDoorXmD
namespace Go.Proofs.YtpleaopefngafaaDoor
set_option maxRecDepth 8000
namespace Xm

/-- The five bytes that are marked, as the document lists them. -/
def five : Bytes := [38, 60, 62, 34, 39]
def fiveB (c : UInt8) : Bool := c == 38 || c == 60 || c == 62 || c == 34 || c == 39
theorem esc1_plain {c : UInt8} (h : fiveB c = false) : esc1 c = [c] := by
  have := byte_all (P := fun c => fiveB c || (esc1 c == [c])) (by decide +kernel) c
  rw [h, Bool.false_or] at this
  exact beq_iff_eq.1 this
theorem esc1_five {c : UInt8} (h : fiveB c = true) : esc1 c = mark c ∧ ∃ x t, mark c = 38 :: x :: t ∧ x ≠ 59 := by
  unfold fiveB at h
  simp only [Bool.or_eq_true, beq_iff_eq] at h
  rcases h with (((rfl | rfl) | rfl) | rfl) | rfl
  · exact ⟨by decide, 97, _, rfl, by decide⟩
  · exact ⟨by decide, 108, _, rfl, by decide⟩
  · exact ⟨by decide, 103, _, rfl, by decide⟩
  · exact ⟨by decide, 113, _, rfl, by decide⟩
  · exact ⟨by decide, 35, _, rfl, by decide⟩
def second (c : UInt8) : Option UInt8 := (mark c)[1]?
theorem second_inj {a b : UInt8} (ha : fiveB a = true) (hb : fiveB b = true) (h : second a = second b) : a = b := by
  unfold fiveB at ha hb
  simp only [Bool.or_eq_true, beq_iff_eq] at ha hb
  rcases ha with (((rfl | rfl) | rfl) | rfl) | rfl <;> rcases hb with (((rfl | rfl) | rfl) | rfl) | rfl <;> first | rfl | (exfalso; revert h; decide)
/-- What a byte is written as tells which it was, whatever comes behind. -/
theorem esc1_inj {a b : UInt8} {X Y : Bytes} (h : esc1 a ++ X = esc1 b ++ Y) : a = b ∧ X = Y := by
  have key : a = b := by
    cases ha : fiveB a with
    | false =>
      rw [esc1_plain ha] at h
      cases hb : fiveB b with
      | false =>
        rw [esc1_plain hb] at h
        injection h
      | true =>
        obtain ⟨e, x, t, hm, _⟩ := esc1_five hb
        rw [e, hm] at h
        injection h with h1 _
        rw [h1] at ha
        exact absurd ha (by decide)
    | true =>
      obtain ⟨e, x, t, hm, _⟩ := esc1_five ha
      cases hb : fiveB b with
      | false =>
        rw [esc1_plain hb, e, hm] at h
        injection h with h1 _
        rw [← h1] at hb
        exact absurd hb (by decide)
      | true =>
        obtain ⟨e', x', t', hm', _⟩ := esc1_five hb
        rw [e, hm, e', hm'] at h
        injection h with _ h
        injection h with h1 _
        refine second_inj ha hb ?_
        unfold second
        rw [hm, hm', h1]
        rfl
  subst key
  exact ⟨rfl, List.append_cancel_left h⟩
theorem esc1_ne (c : UInt8) : esc1 c ≠ [] := by
  have := byte_all (P := fun c => !(esc1 c == [])) (by decide +kernel) c
  simpa using this
theorem escape_cons (c : UInt8) (l : Bytes) : escape (c :: l) = esc1 c ++ escape l := rfl
theorem escape_cut : ∀ (acc : Bytes) (r p : Bytes), escape acc ++ r = escape p → ∃ q, p = acc ++ q ∧ r = escape q
  | [], r, p, h => ⟨p, rfl, h⟩
  | a :: acc, r, [], h => by
    rw [escape_cons] at h
    have h2 : (esc1 a ++ escape acc) ++ r = [] := h
    have h3 := List.append_eq_nil_iff.1 (List.append_eq_nil_iff.1 h2).1
    exact absurd h3.1 (esc1_ne a)
  | a :: acc, r, b :: p, h => by
    rw [escape_cons, escape_cons, List.append_assoc] at h
    obtain ⟨rfl, h2⟩ := esc1_inj h
    obtain ⟨q, h3, h4⟩ := escape_cut acc r p h2
    exact ⟨q, by rw [h3]; rfl, h4⟩
theorem un_none {acc r : Bytes} (h : ∀ q, r ≠ escape q) : unescape (escape acc ++ r) = none := by
  cases hu : unescape (escape acc ++ r) with
  | none => rfl
  | some p =>
    obtain ⟨q, _, hq⟩ := escape_cut acc r p ((unescape_is _ _).1 hu)
    exact absurd hq (h q)
/-- One of the four that are never written plainly. -/
theorem un_bad {acc r : Bytes} {c : UInt8} (hc : fiveB c = true) (h : c ≠ 38) : unescape (escape acc ++ (c :: r)) = none := by
  refine un_none (fun q hq => ?_)
  cases q with
  | nil => cases hq
  | cons d q =>
    rw [escape_cons] at hq
    cases hd : fiveB d with
    | false =>
      rw [esc1_plain hd] at hq
      injection hq with h1 _
      rw [h1, hd] at hc
      exact Bool.false_ne_true hc
    | true =>
      obtain ⟨e, x, t, hm, _⟩ := esc1_five hd
      rw [e, hm] at hq
      injection hq with h1 _
      exact h h1
/-- An & at which none of the five marks stands. -/
theorem un_loose {acc r : Bytes} (h : ∀ d ∈ five, (mark d).isPrefixOf (38 :: r) = false) : unescape (escape acc ++ (38 :: r)) = none := by
  refine un_none (fun q hq => ?_)
  cases q with
  | nil => cases hq
  | cons d q =>
    rw [escape_cons] at hq
    cases hd : fiveB d with
    | false =>
      rw [esc1_plain hd] at hq
      injection hq with h1 _
      rw [← h1] at hd
      exact absurd hd (by decide)
    | true =>
      obtain ⟨e, _⟩ := esc1_five hd
      rw [e] at hq
      have hm : d ∈ five := by
        unfold fiveB at hd
        simp only [Bool.or_eq_true, beq_iff_eq] at hd
        rcases hd with (((rfl | rfl) | rfl) | rfl) | rfl <;> simp [five]
      have := h d hm
      rw [hq] at this
      exact absurd (List.isPrefixOf_iff_prefix.2 (List.prefix_append (mark d) (escape q))) (by rw [this]; decide)
theorem un_step_plain {acc r : Bytes} {c : UInt8} (hc : fiveB c = false) : escape acc ++ (c :: r) = escape (acc ++ [c]) ++ r := by
  rw [escape_app, show escape [c] = [c] by rw [escape_cons, esc1_plain hc]; rfl]
  simp
theorem un_step_mark {acc r : Bytes} {d : UInt8} (hd : fiveB d = true) : escape acc ++ (mark d ++ r) = escape (acc ++ [d]) ++ r := by
  rw [escape_app, show escape [d] = mark d by rw [escape_cons, (esc1_five hd).1]; simp [escape]]
  simp
theorem un_end (acc : Bytes) : unescape (escape acc) = some acc := (unescape_is _ _).2 rfl
end Xm
end Go.Proofs.YtpleaopefngafaaDoor
