/- Elements as they lie in memory, and how many are left: roomBehind of package xml, the document's Few; for any element that reads as a tree. -/
import Derived.Test.YtpleaopefngafaaDoorXmD
import Derived.Test.YtpleaopefngafaaDoorXmG
namespace Go.Proofs.YtpleaopefngafaaDoor
set_option maxRecDepth 8000
open Go.RowKit

/-- An element's value. -/
def nV (nm : List UInt8) (A : Option Addr) (na ca : Nat) (tx : List UInt8) (K : Option Addr) (nk ck : Nat) : Value := .agg #[.string (S nm), .slice A na ca, .string (S tx), .slice K nk ck]
mutual
def Tr (w : World) (bd : Nat) : Xm.N → Value → Prop
  | .mk nm ats tx ks, v => ∃ A ca K ck, v = nV nm A ats.length ca tx K ks.length ck ∧ PCells w bd A ats ∧ (0 < ks.length → ∃ b off, K = some ⟨b, off, none⟩ ∧ b < bd ∧ TrL w bd b off 0 ks)
def TrL (w : World) (bd b off : Nat) : Nat → List Xm.N → Prop
  | _, [] => True
  | k, n :: ks => (∃ v0 v1 v2 v3, w.cell? ⟨b, off + k * 4, none⟩ = some v0 ∧ w.cell? ⟨b, off + k * 4 + 1, none⟩ = some v1 ∧ w.cell? ⟨b, off + k * 4 + 2, none⟩ = some v2 ∧ w.cell? ⟨b, off + k * 4 + 3, none⟩ = some v3 ∧ Tr w bd n (.agg #[v0, v1, v2, v3])) ∧ TrL w bd b off (k + 1) ks
end
theorem PCells.keepB {w w' : World} {bd bd' : Nat} {A : Option Addr} {l : List Pct.PairL} (h : PCells w bd A l) (hb : Below bd' w w') (hle : bd ≤ bd') : PCells w' bd A l := fun hn => by
  obtain ⟨b, off, e1, e2, e3⟩ := h hn
  refine ⟨b, off, e1, e2, fun k hk => ?_⟩
  have := e3 k hk
  exact ⟨(hb.cell (p := ⟨b, off + k * 2, none⟩) (Nat.lt_of_lt_of_le e2 hle)).trans this.1, (hb.cell (p := ⟨b, off + k * 2 + 1, none⟩) (Nat.lt_of_lt_of_le e2 hle)).trans this.2⟩
theorem PCells.moreB {w : World} {bd bd' : Nat} {A : Option Addr} {l : List Pct.PairL} (h : PCells w bd A l) (hle : bd ≤ bd') : PCells w bd' A l := fun hn => by
  obtain ⟨b, off, e1, e2, e3⟩ := h hn
  exact ⟨b, off, e1, Nat.lt_of_lt_of_le e2 hle, e3⟩
mutual
theorem Tr.keepB {w w' : World} {bd bd' : Nat} (hb : Below bd' w w') (hle : bd ≤ bd') : ∀ (n : Xm.N) (v : Value), Tr w bd n v → Tr w' bd n v
  | .mk nm ats tx ks, v, h => by
    unfold Tr at h ⊢
    obtain ⟨A, ca, K, ck, e1, e2, e3⟩ := h
    refine ⟨A, ca, K, ck, e1, e2.keepB hb hle, fun hn => ?_⟩
    obtain ⟨b, off, f1, f2, f3⟩ := e3 hn
    exact ⟨b, off, f1, f2, TrL.keepB hb hle (Nat.lt_of_lt_of_le f2 hle) 0 ks f3⟩
theorem TrL.keepB {w w' : World} {bd bd' b off : Nat} (hb : Below bd' w w') (hle : bd ≤ bd') (hlt : b < bd') : ∀ (k : Nat) (ks : List Xm.N), TrL w bd b off k ks → TrL w' bd b off k ks
  | k, [], _ => by unfold TrL; trivial
  | k, n :: ks, h => by
    unfold TrL at h ⊢
    obtain ⟨⟨v0, v1, v2, v3, c0, c1, c2, c3, ht⟩, hr⟩ := h
    have hc : ∀ j, w'.cell? ⟨b, j, none⟩ = w.cell? ⟨b, j, none⟩ := fun j => hb.cell (p := ⟨b, j, none⟩) hlt
    exact ⟨⟨v0, v1, v2, v3, (hc _).trans c0, (hc _).trans c1, (hc _).trans c2, (hc _).trans c3, Tr.keepB hb hle n _ ht⟩, TrL.keepB hb hle hlt (k + 1) ks hr⟩
end
mutual
theorem Tr.moreB {w : World} {bd bd' : Nat} (hle : bd ≤ bd') : ∀ (n : Xm.N) (v : Value), Tr w bd n v → Tr w bd' n v
  | .mk nm ats tx ks, v, h => by
    unfold Tr at h ⊢
    obtain ⟨A, ca, K, ck, e1, e2, e3⟩ := h
    refine ⟨A, ca, K, ck, e1, e2.moreB hle, fun hn => ?_⟩
    obtain ⟨b, off, f1, f2, f3⟩ := e3 hn
    exact ⟨b, off, f1, Nat.lt_of_lt_of_le f2 hle, TrL.moreB hle 0 ks f3⟩
theorem TrL.moreB {w : World} {bd bd' b off : Nat} (hle : bd ≤ bd') : ∀ (k : Nat) (ks : List Xm.N), TrL w bd b off k ks → TrL w bd' b off k ks
  | k, [], _ => by unfold TrL; trivial
  | k, n :: ks, h => by
    unfold TrL at h ⊢
    obtain ⟨⟨v0, v1, v2, v3, c0, c1, c2, c3, ht⟩, hr⟩ := h
    exact ⟨⟨v0, v1, v2, v3, c0, c1, c2, c3, Tr.moreB hle n _ ht⟩, TrL.moreB hle (k + 1) ks hr⟩
end
theorem Tr.next {w w' : World} {n : Xm.N} {v : Value} (h : Tr w w.heap.size n v) (hb : Below w.heap.size w w') : Tr w' w'.heap.size n v :=
  Tr.moreB hb.size n v (Tr.keepB hb (Nat.le_refl _) n v h)
theorem Tr.form {w : World} {bd : Nat} {n : Xm.N} {v : Value} (h : Tr w bd n v) : ∃ A ca K ck, v = nV n.name A n.attrs.length ca n.text K n.kids.length ck ∧ PCells w bd A n.attrs ∧ (0 < n.kids.length → ∃ b off, K = some ⟨b, off, none⟩ ∧ b < bd ∧ TrL w bd b off 0 n.kids) := by
  cases n with
  | mk nm ats tx ks => unfold Tr at h; exact h
theorem TrL.get {w : World} {bd b off : Nat} : ∀ (ks : List Xm.N) (k i : Nat) (hi : i < ks.length), TrL w bd b off k ks → ∃ A ca K ck, w.cell? ⟨b, off + (k + i) * 4, none⟩ = some (.string (S ks[i].name)) ∧ w.cell? ⟨b, off + (k + i) * 4 + 1, none⟩ = some (.slice A ks[i].attrs.length ca) ∧ w.cell? ⟨b, off + (k + i) * 4 + 2, none⟩ = some (.string (S ks[i].text)) ∧ w.cell? ⟨b, off + (k + i) * 4 + 3, none⟩ = some (.slice K ks[i].kids.length ck) ∧ Tr w bd ks[i] (nV ks[i].name A ks[i].attrs.length ca ks[i].text K ks[i].kids.length ck)
  | n :: ks, k, 0, _, h => by
    unfold TrL at h
    obtain ⟨⟨v0, v1, v2, v3, c0, c1, c2, c3, ht⟩, _⟩ := h
    obtain ⟨A, ca, K, ck, hv, _⟩ := ht.form
    have ht' := ht
    rw [hv] at ht'
    unfold nV at hv
    injection hv with hv
    injection hv with hv
    injection hv with e0 hv
    injection hv with e1 hv
    injection hv with e2 hv
    injection hv with e3 _
    subst e0 e1 e2 e3
    exact ⟨A, ca, K, ck, c0, c1, c2, c3, ht'⟩
  | n :: ks, k, i + 1, hi, h => by
    unfold TrL at h
    have := TrL.get ks (k + 1) i (by simpa using hi) h.2
    rw [show k + (i + 1) = k + 1 + i by omega]
    exact this
theorem size_kid {n : Xm.N} {i : Nat} (hi : i < n.kids.length) : Xm.size n.kids[i] < Xm.size n := by
  have hl : ∀ (ks : List Xm.N) (j : Nat) (hj : j < ks.length), Xm.size ks[j] ≤ Xm.sizeL ks := by
    intro ks
    induction ks with
    | nil => intro j hj; simp at hj
    | cons k ks ih =>
      intro j hj
      unfold Xm.sizeL
      cases j with
      | zero => simp
      | succ j =>
        have := ih j (by simpa using hj)
        simp only [List.getElem_cons_succ]
        omega
  cases n with
  | mk nm ats tx ks =>
    have := hl ks i hi
    have e : Xm.size (.mk nm ats tx ks) = Xm.sizeL ks + 1 := by rw [Xm.size]
    show Xm.size ks[i] < Xm.size (.mk nm ats tx ks)
    rw [e]
    omega

/-- What a number that may be left is, ats an answer. -/
def leftI : Option Nat → Int
  | none => -1
  | some q => (q : Int)
theorem fewL_snoc : ∀ (ks : List Xm.N) (k : Xm.N) (d r : Nat), Xm.fewL (ks ++ [k]) d r = (Xm.fewL ks d r).bind (Xm.few k d)
  | [], k, d, r => by
    show Xm.fewL [k] d r = (some r).bind (Xm.few k d)
    unfold Xm.fewL
    cases h : Xm.few k d r with
    | none => simp [h]
    | some q => simp [h, Xm.fewL]
  | x :: ks, k, d, r => by
    show Xm.fewL (x :: (ks ++ [k])) d r = _
    unfold Xm.fewL
    cases h : Xm.few x d r with
    | none => rfl
    | some q => exact fewL_snoc ks k d q
theorem few_none_of {ks : List Xm.N} {d r i : Nat} (h : Xm.fewL (ks.take i) d r = none) : Xm.fewL ks d r = none := by
  have hap : ∀ (a b : List Xm.N) (r : Nat), Xm.fewL a d r = none → Xm.fewL (a ++ b) d r = none := by
    intro a
    induction a with
    | nil => intro b r h; unfold Xm.fewL at h; cases h
    | cons x a ih =>
      intro b r h
      rw [List.cons_append]
      unfold Xm.fewL at h ⊢
      cases hx : Xm.few x d r with
      | none => rfl
      | some q => rw [hx] at h; exact ih b q h
  have := hap (ks.take i) (ks.drop i) r h
  rwa [List.take_append_drop] at this
theorem few_eq (n : Xm.N) (d r : Nat) : Xm.few n d r = if d = 0 ∨ r = 0 then none else Xm.fewL n.kids (d - 1) (r - 1) := by
  cases n with
  | mk nm ats tx ks => unfold Xm.few; rfl
end Go.Proofs.YtpleaopefngafaaDoor
