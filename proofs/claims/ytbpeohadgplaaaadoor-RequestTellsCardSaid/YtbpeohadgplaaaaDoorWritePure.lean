/- How long a form of pairs is, that is written. Plain lists alone. -/
import Derived.Test.YtbpeohadgplaaaaDoorForms
namespace Go.Proofs.YtbpeohadgplaaaaDoor

def short1 (q : Pct.PairL) : Bool := decide (q.1.length ≤ 1000) && decide (q.2.length ≤ 1000)

theorem write_snoc (q : Pct.PairL) : ∀ a : List Pct.PairL, a ≠ [] → Pct.write (a ++ [q]) = Pct.write a ++ 38 :: Pct.wr1 q
  | [], h => absurd rfl h
  | [x], _ => rfl
  | x :: y :: r, _ => by
    have ih := write_snoc q (y :: r) (by simp)
    have e1 : Pct.write (x :: y :: r ++ [q]) = Pct.wr1 x ++ 38 :: Pct.write (y :: r ++ [q]) := rfl
    have e2 : Pct.write (x :: y :: r) = Pct.wr1 x ++ 38 :: Pct.write (y :: r) := rfl
    rw [e1, e2, ih]
    simp
theorem write_one (q : Pct.PairL) : Pct.write [q] = Pct.wr1 q := rfl
theorem wr1_len (q : Pct.PairL) (h : short1 q = true) : (Pct.wr1 q).length ≤ 6001 := by
  unfold short1 at h
  simp at h
  unfold Pct.wr1
  have h1 := (Pct.enc_len q.1).2
  have h2 := (Pct.enc_len q.2).2
  simp
  omega
theorem write_len : ∀ l : List Pct.PairL, l.all short1 = true → (Pct.write l).length ≤ 6002 * l.length
  | [], _ => by simp [Pct.write]
  | [q], h => by
    simp only [List.all_cons, List.all_nil, Bool.and_true] at h
    have := wr1_len q h
    rw [write_one]
    simp
    omega
  | q :: y :: r, h => by
    rw [List.all_cons, Bool.and_eq_true] at h
    have ih := write_len (y :: r) h.2
    have := wr1_len q h.1
    have e2 : Pct.write (q :: y :: r) = Pct.wr1 q ++ 38 :: Pct.write (y :: r) := rfl
    rw [e2]
    simp only [List.length_append, List.length_cons] at ih ⊢
    omega
theorem write_ne (l : List Pct.PairL) (h : l ≠ []) : Pct.write l ≠ [] := by
  match l, h with
  | [q], _ => exact Pct.wr1_ne q
  | q :: y :: r, _ =>
    have e2 : Pct.write (q :: y :: r) = Pct.wr1 q ++ 38 :: Pct.write (y :: r) := rfl
    rw [e2]
    simp

theorem write_len60 : ∀ l : List Pct.PairL, (∀ q ∈ l, q.1.length ≤ 60 ∧ q.2.length ≤ 60) → (Pct.write l).length ≤ 362 * l.length
  | [], _ => by simp [Pct.write]
  | [q], h => by
    have h0 := h q (by simp)
    have h1 := (Pct.enc_len q.1).2
    have h2 := (Pct.enc_len q.2).2
    rw [write_one]
    unfold Pct.wr1
    simp
    omega
  | q :: y :: r, h => by
    have ih := write_len60 (y :: r) (fun x hx => h x (List.mem_cons_of_mem _ hx))
    have h0 := h q (by simp)
    have h1 := (Pct.enc_len q.1).2
    have h2 := (Pct.enc_len q.2).2
    have e2 : Pct.write (q :: y :: r) = Pct.wr1 q ++ 38 :: Pct.write (y :: r) := rfl
    rw [e2]
    unfold Pct.wr1
    simp only [List.length_append, List.length_cons] at ih ⊢
    omega
end Go.Proofs.YtbpeohadgplaaaaDoor
