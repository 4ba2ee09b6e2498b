/- Plain lists of cookies: a jar has no two cookies of one name and path; what was put in last is sent last; no program stands in it. No condition. -/
import Derived.Test.YtpdilhnbbokipaaDoorCkC
namespace Go.Proofs.YtpdilhnbbokipaaDoor
set_option maxRecDepth 8000
namespace Ck
open Pct (PairL)

def diff (a b : C) : Prop := ¬ (a.name = b.name ∧ a.path = b.path)
def NoTwo (m : List C) : Prop := m.Pairwise diff
theorem noTwo_rest {m : List C} (h : NoTwo m) (c : C) : NoTwo (rest m c) := List.Pairwise.filter _ h
theorem rest_not {m : List C} {c x : C} (h : x ∈ rest m c) : same c x = false := by
  have := (List.mem_filter.1 h).2
  simpa using this
theorem same_no {c x : C} (h : same c x = false) : ¬ (x.name = c.name ∧ x.path = c.path) := by
  unfold same at h
  intro ⟨h1, h2⟩
  rw [h1, h2] at h
  simp at h
theorem noTwo_put {m : List C} (h : NoTwo m) (c : C) : NoTwo (put m c) := by
  unfold put
  split
  · split
    · exact noTwo_rest h c
    · split
      · exact h
      · unfold NoTwo
        rw [List.pairwise_append]
        refine ⟨noTwo_rest h c, by simp, fun a ha b hb => ?_⟩
        rw [List.mem_singleton] at hb
        subst hb
        exact same_no (rest_not ha)
  · exact h
theorem noTwo_at {m : List C} (h : NoTwo m) {i k : Nat} (hi : i < m.length) (hk : k < i) : ¬ (m[i].name = m[k].name ∧ m[i].path = m[k].path) := by
  have := List.pairwise_iff_getElem.1 h k i (by omega) hi hk
  intro ⟨h1, h2⟩
  exact this ⟨h1.symm, h2.symm⟩
theorem put_err {m : List C} {c : C} (h : putE m c ≠ 0) : put m c = m := by
  unfold putE at h
  unfold put
  split
  · rename_i hr
    rw [if_pos hr] at h
    split
    · rename_i ha
      rw [if_pos ha] at h
      exact absurd rfl h
    · rename_i ha
      rw [if_neg ha] at h
      split
      · rfl
      · rename_i hl
        rw [if_neg hl] at h
        exact absurd rfl h
  · rfl
theorem put_zero {m : List C} {c : C} (h : putE m c = 0) (ha : c.age = 0) : put m c = rest m c := by
  unfold putE at h
  unfold put
  split
  · rfl
  · rename_i hr
    rw [if_neg hr] at h
    cases h
theorem put_some {m : List C} {c : C} (h : putE m c = 0) (ha : c.age ≠ 0) : put m c = rest m c ++ [c] := by
  unfold putE at h
  unfold put
  split
  · rename_i hr
    rw [if_pos hr, if_neg ha] at h
    split
    · rename_i hl
      rw [if_pos hl] at h
      cases h
    · rfl
  · rename_i hr
    rw [if_neg hr] at h
    cases h
theorem under_self (p : Bytes) : under p p = true := by
  unfold under
  rw [List.drop_length]
  have : p.isPrefixOf p = true := by rw [List.isPrefixOf_iff_prefix]; exact List.prefix_refl _
  rw [this]
  rfl
theorem sent_last (r : List C) (c : C) : pairs (r ++ [c]) c.path true = pairs r c.path true ++ [(c.name, c.val)] := by
  unfold pairs
  rw [List.filter_append, List.map_append]
  have : sends c.path true c = true := by unfold sends; rw [under_self]; rfl
  simp [this]
end Ck
end Go.Proofs.YtpdilhnbbokipaaDoor
