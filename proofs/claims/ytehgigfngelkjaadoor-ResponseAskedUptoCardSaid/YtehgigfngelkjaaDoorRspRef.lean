/- Plain lists alone: the document's Read of responses, line by line, tells what Read tells. No condition. -/
import Derived.Test.YtehgigfngelkjaaDoorRspBack
namespace Go.Proofs.YtehgigfngelkjaaDoor
set_option maxRecDepth 8000
namespace Rsp
open Pct (PairL)

def kn : List Int := [200, 302, 400, 403, 404, 405, 503]
/-- The status that the first of the known ones, up to k, tell of a line. -/
def stUp (l : Bytes) : Nat → Int
  | 0 => 0
  | k + 1 => if l = firstLine (kn.getD k 0) then kn.getD k 0 else stUp l k
def rdGo : Nat → Bytes → List PairL → Bytes → Option (List PairL × Bytes × Bytes)
  | 0, _, _, _ => none
  | f + 1, r, hs, sz => match Req.line r with
    | none => none
    | some (l, r') => if l = [] then some (hs, sz, r') else if sz ≠ [] then none
      else if (Lib.cut l sep2).2.2 = false then none
      else if (Lib.cut l sep2).1 = lenName then (if (Lib.cut l sep2).2.1 = [] then none else rdGo f r' hs (Lib.cut l sep2).2.1)
      else rdGo f r' (hs ++ [hdrOf l]) sz
def refEnd (l0 : Bytes) (o : Option (List PairL × Bytes × Bytes)) : Option (Int × List PairL × Bytes) :=
  match o with
  | none => none
  | some (hs, sz, b) => if right (stUp l0 7) hs b = true ∧ sz = Lib.decDigits b.length then some (stUp l0 7, hs, b) else none
def refRead (s : Bytes) : Option (Int × List PairL × Bytes) :=
  match Req.line s with
  | none => none
  | some (l0, r) => refEnd l0 (rdGo (r.length + 1) r [] [])

theorem stUp_first {s : Int} (h : (reason s).isEmpty = false) : stUp (firstLine s) 7 = s := by
  rcases reason_known h with rfl | rfl | rfl | rfl | rfl | rfl | rfl
  all_goals decide +kernel
theorem stUp_is (l : Bytes) : ∀ k, k ≤ 7 → stUp l k = 0 ∨ l = firstLine (stUp l k)
  | 0, _ => .inl rfl
  | k + 1, hk => by
    by_cases h : l = firstLine (kn.getD k 0)
    · right
      have e : stUp l (k + 1) = kn.getD k 0 := by unfold stUp; rw [if_pos h]
      rw [e]
      exact h
    · have e : stUp l (k + 1) = stUp l k := by
        conv => lhs; unfold stUp
        rw [if_neg h]
      rw [e]
      exact stUp_is l k (by omega)
theorem reason_zero : (reason 0).isEmpty = true := by decide +kernel
theorem stUp_line {l : Bytes} (h : (reason (stUp l 7)).isEmpty = false) : l = firstLine (stUp l 7) := by
  rcases stUp_is l 7 (Nat.le_refl _) with h0 | h1
  · rw [h0, reason_zero] at h
    cases h
  · exact h1
theorem rdGo_line (f : Nat) (r : Bytes) (hs : List PairL) (sz : Bytes) : rdGo (f + 1) r hs sz = match Req.line r with
    | none => none
    | some (l, r') => if l = [] then some (hs, sz, r') else if sz ≠ [] then none
      else if (Lib.cut l sep2).2.2 = false then none
      else if (Lib.cut l sep2).1 = lenName then (if (Lib.cut l sep2).2.1 = [] then none else rdGo f r' hs (Lib.cut l sep2).2.1)
      else rdGo f r' (hs ++ [hdrOf l]) sz := rfl

/-! ### What is written -/
theorem cut_hline {q : PairL} (h1 : ∀ x ∈ q.1, x ≠ 13 ∧ x ≠ 58) : Lib.cut (hline q) sep2 = (q.1, q.2, true) := by
  unfold hline
  rw [show sep2 = 58 :: [32] from rfl, cut_clean 58 [32] q.2 q.1 (fun x hx => (h1 x hx).2)]
theorem line_of {a : Bytes} (h : no13 a) (r : Bytes) : Req.line (a ++ ([13, 10] ++ r)) = some (a, r) := Req.line_clean r a h
theorem dec_ne (n : Nat) : Lib.decDigits n ≠ [] := by
  intro h
  rw [Lib.decDigits] at h
  split at h
  · cases h
  · simp at h
theorem lenName_no : ∀ x ∈ lenName, x ≠ 13 ∧ x ≠ 58 := by
  intro x hx
  have : (lenName.all fun x => !(x == 13) && !(x == 58)) = true := by decide +kernel
  have := List.all_eq_true.1 this x hx
  simpa using this
theorem rdGo_end (f : Nat) (b : Bytes) (hs : List PairL) (sz : Bytes) : rdGo (f + 1) ([13, 10] ++ b) hs sz = some (hs, sz, b) := by
  rw [rdGo_line, show Req.line ([13, 10] ++ b) = some ([], b) from Req.line_hit b]
  simp
theorem rdGo_text (b : Bytes) : ∀ (l : List PairL) (f : Nat) (hs : List PairL), (∀ q ∈ l, hdrOk q = true) → l.length + 2 ≤ f →
    rdGo f (hds l ++ (hline (lenName, Lib.decDigits b.length) ++ ([13, 10] ++ ([13, 10] ++ b)))) hs [] = some (hs ++ l, Lib.decDigits b.length, b)
  | [], f, hs, _, hf => by
    obtain ⟨f, rfl⟩ : ∃ g, f = g + 2 := ⟨f - 2, by simp at hf; omega⟩
    have hok := len_ok b
    have e : hds [] ++ (hline (lenName, Lib.decDigits b.length) ++ ([13, 10] ++ ([13, 10] ++ b))) = hline (lenName, Lib.decDigits b.length) ++ ([13, 10] ++ ([13, 10] ++ b)) := rfl
    rw [e, rdGo_line, line_of hok.2]
    simp only [cut_hline (q := (lenName, Lib.decDigits b.length)) lenName_no, hok.1, dec_ne, if_false, if_true, ne_eq, not_true_eq_false, Bool.true_eq_false]
    rw [rdGo_end]
    simp
  | q :: l, f, hs, hq, hf => by
    obtain ⟨f, rfl⟩ : ∃ g, f = g + 1 := ⟨f - 1, by simp at hf; omega⟩
    have h0 := hq q (List.mem_cons_self ..)
    obtain ⟨p1, p2⟩ := hdr_parts h0
    have hok := hline_ok p1 p2
    have hne : q.1 ≠ lenName := by
      intro e
      unfold hdrOk at h0
      rw [e, show Req.alike lenName lenName = true by unfold Req.alike; simp] at h0
      simp at h0
    have ih := rdGo_text b l f (hs ++ [q]) (fun x hx => hq x (List.mem_cons_of_mem _ hx)) (by simp at hf; omega)
    have e : hds (q :: l) ++ (hline (lenName, Lib.decDigits b.length) ++ ([13, 10] ++ ([13, 10] ++ b))) = hline q ++ ([13, 10] ++ (hds l ++ (hline (lenName, Lib.decDigits b.length) ++ ([13, 10] ++ ([13, 10] ++ b))))) := by
      unfold hds
      rw [List.flatMap_cons]
      simp [hd, hline, sep2]
    rw [e, rdGo_line, line_of hok.1.2]
    simp only [cut_hline p1, hok.1.1, hne, hok.2, if_false, ne_eq, not_true_eq_false, Bool.true_eq_false]
    rw [ih]
    simp
theorem refRead_write {s : Int} {l : List PairL} {b : Bytes} (h : right s l b = true) : refRead (write s l b) = some (s, l, b) := by
  obtain ⟨h1, h2⟩ := right_all h
  have hf : no13 (firstLine s) := by
    intro x hx
    have := List.all_eq_true.1 (first_ok h1).1 x hx
    simpa using this
  have e : write s l b = firstLine s ++ ([13, 10] ++ (hds l ++ (hline (lenName, Lib.decDigits b.length) ++ ([13, 10] ++ ([13, 10] ++ b))))) := by
    unfold write all hds
    rw [List.flatMap_append]
    simp [first, firstLine, hd, hline, sep2]
  have hlen : l.length + 2 ≤ (hds l ++ (hline (lenName, Lib.decDigits b.length) ++ ([13, 10] ++ ([13, 10] ++ b)))).length + 1 := by
    have : ∀ m : List PairL, m.length ≤ (hds m).length := by
      intro m
      induction m with
      | nil => simp
      | cons q r ih =>
        have e : hds (q :: r) = hd q ++ hds r := rfl
        rw [e, List.length_append]
        unfold hd
        simp only [List.length_append, List.length_cons, List.length_nil]
        omega
    have := this l
    simp only [List.length_append, List.length_cons, List.length_nil]
    omega
  unfold refRead
  rw [e, line_of hf]
  simp only [rdGo_text b l _ [] h2 hlen, List.nil_append]
  unfold refEnd
  simp only [stUp_first h1, h, and_self, if_true]

/-! ### What is read -/
theorem cut_parts {l sep a b : Bytes} (h : Lib.cut l sep = (a, b, true)) : l = a ++ (sep ++ b) := by
  unfold Lib.cut at h
  rcases Lib.index_spec l sep with ⟨h1, _⟩ | ⟨i, hi, _, ho, _⟩
  · rw [h1, if_neg (by decide)] at h
    simp at h
  · rw [hi, if_pos (by omega)] at h
    simp only [Int.toNat_natCast, Prod.mk.injEq, and_true] at h
    obtain ⟨rfl, rfl⟩ := h
    obtain ⟨t, ht⟩ := List.isPrefixOf_iff_prefix.1 (show sep.isPrefixOf (l.drop i) = true from ho)
    have e : l.drop (i + sep.length) = t := by
      rw [← List.drop_drop, ← ht, List.drop_left]
    rw [e, ht, List.take_append_drop]
theorem rdGo_is : ∀ (f : Nat) (r : Bytes) (hs : List PairL) (sz : Bytes) (hs2 : List PairL) (sz2 b : Bytes), rdGo f r hs sz = some (hs2, sz2, b) →
    (sz ≠ [] → r = [13, 10] ++ b ∧ hs2 = hs ∧ sz2 = sz) ∧ (sz = [] → sz2 = [] ∨ ∃ l, hs2 = hs ++ l ∧ r = hds l ++ (hline (lenName, sz2) ++ ([13, 10] ++ ([13, 10] ++ b))))
  | 0, _, _, _, _, _, _, h => by cases h
  | f + 1, r, hs, sz, hs2, sz2, b, h => by
    rw [rdGo_line] at h
    cases hl : Req.line r with
    | none => rw [hl] at h; cases h
    | some p =>
      obtain ⟨a, r'⟩ := p
      rw [hl] at h
      have hr : r = a ++ ([13, 10] ++ r') := Req.line_parts hl
      simp only at h
      by_cases ha : a = []
      · rw [if_pos ha] at h
        simp only [Option.some.injEq, Prod.mk.injEq] at h
        obtain ⟨rfl, rfl, rfl⟩ := h
        subst ha
        exact ⟨fun _ => ⟨hr, rfl, rfl⟩, fun e => .inl e⟩
      · rw [if_neg ha] at h
        by_cases hsz : sz = []
        · rw [if_neg (by simp [hsz])] at h
          refine ⟨fun e => absurd hsz e, fun _ => ?_⟩
          obtain ⟨c1, c2, fl, hc⟩ : ∃ c1 c2 fl, Lib.cut a sep2 = (c1, c2, fl) := ⟨_, _, _, rfl⟩
          have hho : hdrOf a = (c1, c2) := by unfold hdrOf; rw [hc]
          rw [hc, hho] at h
          simp only at h
          cases fl with
          | false => rw [if_pos rfl] at h; cases h
          | true =>
            rw [if_neg (by decide)] at h
            have hap := cut_parts hc
            by_cases hn : c1 = lenName
            · rw [if_pos hn] at h
              by_cases h2 : c2 = []
              · rw [if_pos h2] at h; cases h
              · rw [if_neg h2] at h
                obtain ⟨k1, k2, k3⟩ := (rdGo_is f r' hs c2 hs2 sz2 b h).1 h2
                refine .inr ⟨[], by simp [k2], ?_⟩
                rw [hr, hap, k1, k3, hn]
                simp [hds, hline]
            · rw [if_neg hn, hsz] at h
              rcases (rdGo_is f r' (hs ++ [(c1, c2)]) [] hs2 sz2 b h).2 rfl with k | ⟨l, k1, k2⟩
              · exact .inl k
              · refine .inr ⟨(c1, c2) :: l, by rw [k1]; simp, ?_⟩
                rw [hr, hap, k2]
                simp [hds, hd, hline, sep2]
        · rw [if_pos hsz] at h
          cases h
theorem refRead_some {t : Bytes} {s : Int} {l : List PairL} {b : Bytes} (h : refRead t = some (s, l, b)) : right s l b = true ∧ write s l b = t := by
  unfold refRead at h
  cases hl : Req.line t with
  | none => rw [hl] at h; cases h
  | some p =>
    obtain ⟨l0, r⟩ := p
    rw [hl] at h
    have ht : t = l0 ++ ([13, 10] ++ r) := Req.line_parts hl
    simp only at h
    cases hg : rdGo (r.length + 1) r [] [] with
    | none => rw [hg] at h; cases h
    | some q =>
      obtain ⟨hs, sz, b'⟩ := q
      rw [hg] at h
      unfold refEnd at h
      simp only at h
      split at h
      · rename_i hc
        simp only [Option.some.injEq, Prod.mk.injEq] at h
        obtain ⟨rfl, rfl, rfl⟩ := h
        refine ⟨hc.1, ?_⟩
        have hl0 := stUp_line (right_all hc.1).1
        rcases (rdGo_is _ r [] [] hs sz b' hg).2 rfl with k | ⟨l, k1, k2⟩
        · exact absurd (hc.2.symm.trans k) (dec_ne _)
        · rw [List.nil_append] at k1
          subst k1
          rw [ht, k2, hc.2]
          conv => rhs; rw [hl0]
          unfold write all hds
          rw [List.flatMap_append]
          simp [first, firstLine, hd, hline, sep2]
      · cases h
theorem refRead_same (t : Bytes) : refRead t = read t := by
  cases h1 : refRead t with
  | some x =>
    obtain ⟨s, l, b⟩ := x
    obtain ⟨k1, k2⟩ := refRead_some h1
    rw [← k2, read_write k1]
  | none =>
    cases h2 : read t with
    | none => rfl
    | some x =>
      obtain ⟨s, l, b⟩ := x
      obtain ⟨k1, k2⟩ := read_some h2
      rw [← k2, refRead_write k1] at h1
      cases h1
end Rsp
end Go.Proofs.YtehgigfngelkjaaDoor
