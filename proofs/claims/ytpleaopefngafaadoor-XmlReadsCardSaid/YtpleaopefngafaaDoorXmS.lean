/- That no two of some names are one can be told by sorting them; no program stands in it. No condition. -/
import Derived.Test.YtpleaopefngafaaDoorXmN
import Derived.Lib.SlicesCompact
namespace Go.Proofs.YtpleaopefngafaaDoor
set_option maxRecDepth 8000
namespace Xm

abbrev leB (x y : Bytes) : Bool := decide (x ≤ y)
theorem distinct_iff : ∀ l : List Bytes, distinct l = true ↔ l.Nodup
  | [] => by simp [distinct]
  | a :: l => by
    unfold distinct
    rw [Bool.and_eq_true, List.nodup_cons, distinct_iff l]
    simp
theorem tr (a b c : Bytes) (h1 : leB a b = true) (h2 : leB b c = true) : leB a c = true := by
  simp only [leB, decide_eq_true_eq] at *
  exact List.le_trans h1 h2
theorem to (a b : Bytes) : (leB a b || leB b a) = true := by
  simp only [leB, Bool.or_eq_true, decide_eq_true_eq]
  exact List.le_total a b
/-- A sorted list has two alike only side by side. -/
theorem nodup_of_steps : ∀ l : List Bytes, l.Pairwise (fun a b => leB a b = true) → (∀ j (h : j + 1 < l.length), l[j + 1] ≠ l[j]) → l.Nodup
  | [], _, _ => List.nodup_nil
  | [a], _, _ => by simp
  | a :: b :: l, hp, hs => by
    have hp' := List.pairwise_cons.1 hp
    have ih := nodup_of_steps (b :: l) hp'.2 (fun j h => by
      have := hs (j + 1) (by simp at h ⊢; omega)
      simpa using this)
    rw [List.nodup_cons]
    refine ⟨fun hm => ?_, ih⟩
    have hab : leB a b = true := hp'.1 b (by simp)
    have hne : b ≠ a := by simpa using hs 0 (by simp)
    have hba : leB b a = true := by
      rcases List.mem_cons.1 hm with e | hm
      · exact absurd e.symm hne
      · exact (List.pairwise_cons.1 hp'.2).1 a hm
    simp only [leB, decide_eq_true_eq] at hab hba
    exact hne (List.le_antisymm hba hab)
theorem steps_of_nodup {l : List Bytes} (h : l.Nodup) (j : Nat) (hj : j + 1 < l.length) : l[j + 1] ≠ l[j] := by
  intro e
  have := List.nodup_iff_pairwise_ne.1 h
  have h2 := List.pairwise_iff_getElem.1 this j (j + 1) (by omega) hj (by omega)
  exact h2 e.symm
theorem keeps_step (l : List Bytes) (j : Nat) (hj : j < l.length) : Lib.keeps l.toArray j = true ↔ (j = 0 ∨ ∃ h : 0 < j, l[j] ≠ l[j - 1]'(by omega)) := by
  unfold Lib.keeps
  rw [decide_eq_true_eq]
  have e1 : l.toArray[j]! = l[j] := by simp [hj]
  have e2 : 0 < j → l.toArray[j - 1]! = l[j - 1]'(by omega) := fun h => by simp [show j - 1 < l.length by omega]
  constructor
  · rintro (h | h)
    · exact .inl h
    · by_cases h0 : j = 0
      · exact .inl h0
      · refine .inr ⟨by omega, ?_⟩
        rw [e1, e2 (by omega)] at h
        exact h
  · rintro (h | ⟨h0, h⟩)
    · exact .inl h
    · exact .inr (by rw [e1, e2 h0]; exact h)
theorem compact_len_eq (zs : List Bytes) : (Lib.compact zs).length = zs.length ↔ ∀ j, j < zs.length → Lib.keeps zs.toArray j = true := by
  constructor
  · intro h j hj
    unfold Lib.compact Lib.compactUpTo at h
    rw [List.length_map] at h
    have h2 : (List.filter (Lib.keeps zs.toArray) (List.range zs.length)).length = (List.range zs.length).length := by rw [h]; simp
    have h3 := List.length_filter_eq_length_iff.1 h2
    exact h3 j (by simpa using hj)
  · intro h
    rw [Lib.compact_all zs h]
/-- Sorted and without neighbours that are alike there are as many as there were, just if no two are one. -/
theorem sorted_compact (l : List Bytes) : (Lib.compact (l.mergeSort fun x y => decide (x ≤ y))).length = l.length ↔ distinct l = true := by
  have hperm := List.mergeSort_perm l leB
  have hlen : (l.mergeSort leB).length = l.length := hperm.length_eq
  have hpair : (l.mergeSort leB).Pairwise (fun a b => leB a b = true) := List.pairwise_mergeSort tr to l
  rw [distinct_iff, ← hperm.nodup_iff]
  show (Lib.compact (l.mergeSort leB)).length = l.length ↔ _
  rw [← hlen, compact_len_eq]
  constructor
  · intro h
    refine nodup_of_steps _ hpair (fun j hj => ?_)
    have := (keeps_step _ (j + 1) hj).1 (h (j + 1) hj)
    rcases this with h0 | ⟨_, h1⟩
    · omega
    · simpa using h1
  · intro h j hj
    refine (keeps_step _ j hj).2 ?_
    by_cases h0 : j = 0
    · exact .inl h0
    · refine .inr ⟨by omega, ?_⟩
      have := steps_of_nodup h (j - 1) (by omega)
      have e : j - 1 + 1 = j := by omega
      simpa [e] using this
end Xm
end Go.Proofs.YtpleaopefngafaaDoor
