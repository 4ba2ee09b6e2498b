/- Plain functions for cookies as the document reads them: by what must stand there, one behind the other; they tell the cookie that is set, and no other one; no program stands in it. No condition. -/
import Derived.Test.YtpdilhnbbokipaaDoorCkRead
namespace Go.Proofs.YtpdilhnbbokipaaDoor
set_option maxRecDepth 8000
namespace Ck
open Pct (PairL cutAt split)

def ne59 (c : UInt8) : Bool := c != 59
def tw (l : Bytes) : Bytes := l.takeWhile ne59
def dw (l : Bytes) : Bytes := l.dropWhile ne59
def numberI (l : Bytes) : Int :=
  if l.length ≤ 9 ∧ l ≠ [] ∧ ¬ (1 < l.length ∧ l.head? = some 48) then
    match Lib.decFrom 0 l with
    | some n => (n : Int)
    | none => -1
  else -1
def secRest (r : Bytes) : Bytes := if secM.isPrefixOf r = true then r.drop 8 else r
def refTail (name val path : Bytes) (age : Int) (r : Bytes) : Option C :=
  if (secRest r = httpM ∨ secRest r = []) ∧ right ⟨name, val, path, age, secM.isPrefixOf r, decide (secRest r = httpM)⟩ = true then
    some ⟨name, val, path, age, secM.isPrefixOf r, decide (secRest r = httpM)⟩
  else none
def refMid (name val r2 : Bytes) : Option C :=
  if ageM.isPrefixOf (dw r2) = true then
    (if numberI (tw ((dw r2).drop 10)) < 0 then none else refTail name val (tw r2) (numberI (tw ((dw r2).drop 10))) (dw ((dw r2).drop 10)))
  else refTail name val (tw r2) (-1) (dw r2)
def refRead (s : Bytes) : Option C :=
  if (cutAt 61 s).2.2 = true ∧ pathM.isPrefixOf (dw (cutAt 61 s).2.1) = true then
    refMid (cutAt 61 s).1 (tw (cutAt 61 s).2.1) ((dw (cutAt 61 s).2.1).drop 7)
  else none

theorem tw_dw (l : Bytes) : tw l ++ dw l = l := List.takeWhile_append_dropWhile
theorem tw_len (l : Bytes) : (tw l).length ≤ l.length := List.Sublist.length_le (List.takeWhile_sublist _)
theorem dw_len (l : Bytes) : (dw l).length ≤ l.length := List.Sublist.length_le (List.dropWhile_sublist _)
theorem prefix_drop {p l : Bytes} (h : p.isPrefixOf l = true) : l = p ++ l.drop p.length := by
  rw [List.isPrefixOf_iff_prefix] at h
  obtain ⟨t, rfl⟩ := h
  rw [List.drop_left]
/-- Nothing, or a mark. -/
def Mk (y : Bytes) : Prop := y = [] ∨ ∃ m, y = 59 :: m
theorem tw_mk {a y : Bytes} (ha : ∀ x ∈ a, x ≠ 59) (hy : Mk y) : tw (a ++ y) = a ∧ dw (a ++ y) = y := by
  have h1 : ∀ x ∈ a, ne59 x = true := fun x hx => by unfold ne59; simpa using ha x hx
  unfold tw dw
  rw [List.takeWhile_append_of_pos h1, List.dropWhile_append_of_pos h1]
  rcases hy with rfl | ⟨m, rfl⟩
  · simp
  · rw [List.takeWhile_cons_of_neg (by decide), List.dropWhile_cons_of_neg (by decide)]
    simp
theorem mk_flags (a b : Bool) : Mk (secT a ++ httpT b) := by
  cases a <;> cases b
  · exact .inl rfl
  · exact .inr ⟨_, rfl⟩
  · exact .inr ⟨_, rfl⟩
  · exact .inr ⟨_, rfl⟩
theorem mk_age (n : Int) (a b : Bool) : Mk (ageT n ++ (secT a ++ httpT b)) := by
  unfold ageT
  split
  · exact mk_flags a b
  · exact .inr ⟨_, rfl⟩

theorem head_append {a b : Bytes} (h : a ≠ []) : (a ++ b).head? = a.head? := by
  cases a with
  | nil => exact absurd rfl h
  | cons x r => rfl
theorem dec_lead (n : Nat) (h : 1 ≤ n) : (Lib.decDigits n).head? ≠ some 48 := by
  induction n using Nat.strongRecOn with
  | ind n ih =>
    by_cases h10 : n < 10
    · rw [dec_few h10]
      intro he
      simp only [List.head?_cons, Option.some.injEq] at he
      have := congrArg UInt8.toNat he
      rw [digit_nat h10] at this
      have e : (48 : UInt8).toNat = 48 := rfl
      omega
    · rw [dec_more h10, head_append (dec_ne _)]
      exact ih (n / 10) (by omega) (by omega)
theorem number_dec (n : Nat) (h : n ≤ 99999999) : numberI (Lib.decDigits n) = n := by
  unfold numberI
  rw [if_pos, decFrom_dec]
  refine ⟨by have := dec_len8 7 n (by omega); omega, dec_ne n, fun ⟨h1, h2⟩ => ?_⟩
  by_cases h0 : 1 ≤ n
  · exact dec_lead n h0 h2
  · rw [show n = 0 by omega, dec_few (by omega)] at h1
    simp at h1
theorem digit_is {b : UInt8} {d : Nat} (h : Lib.digitVal b = some d) : d < 10 ∧ b = UInt8.ofNat (48 + d) := by
  unfold Lib.digitVal at h
  split at h
  · injection h with h
    refine ⟨by omega, ?_⟩
    apply Pct.u8_eq
    rw [digit_nat (by omega)]
    omega
  · cases h
theorem dec_of : ∀ (k : Nat) (l : Bytes) (n : Nat), l.length = k + 1 → Lib.decFrom 0 l = some n → ¬ (1 < l.length ∧ l.head? = some 48) → l = Lib.decDigits n := by
  intro k
  induction k with
  | zero =>
    intro l n hl hd _
    match l, hl with
    | [b], _ =>
      rw [Lib.decFrom] at hd
      cases hv : Lib.digitVal b with
      | none => rw [hv] at hd; cases hd
      | some d =>
        rw [hv] at hd
        obtain ⟨h10, rfl⟩ := digit_is hv
        simp [Lib.decFrom] at hd
        subst hd
        rw [dec_few h10]
  | succ k ih =>
    intro l n hl hd hz
    have hne : l ≠ [] := by intro h; rw [h] at hl; simp at hl
    obtain ⟨l', b, rfl⟩ : ∃ l' b, l = l' ++ [b] := ⟨l.dropLast, l.getLast hne, (List.dropLast_concat_getLast hne).symm⟩
    have hl' : l'.length = k + 1 := by simpa using hl
    have hne' : l' ≠ [] := by intro h; rw [h] at hl'; simp at hl'
    obtain ⟨m, hm⟩ := Lib.decFrom_prefix _ _ _ hd l'.length
    rw [List.take_left] at hm
    rw [decFrom_append _ _ _ _ hm, Lib.decFrom] at hd
    cases hv : Lib.digitVal b with
    | none => rw [hv] at hd; cases hd
    | some d =>
      rw [hv] at hd
      obtain ⟨h10, rfl⟩ := digit_is hv
      simp [Lib.decFrom] at hd
      have hz' : l'.head? ≠ some 48 := fun h => hz ⟨by simp; omega, by rw [head_append hne']; exact h⟩
      have e := ih l' m hl' hm (fun h => hz' h.2)
      have hm1 : 1 ≤ m := by
        rcases Nat.eq_zero_or_pos m with h0 | h0
        · rw [h0, dec_few (by omega)] at e
          rw [e] at hz'
          exact absurd rfl hz'
        · exact h0
      rw [dec_more (n := n) (by omega), show n / 10 = m by omega, show n % 10 = d by omega, ← e]
theorem number_is {l : Bytes} (h : ¬ numberI l < 0) : ∃ n : Nat, numberI l = n ∧ l = Lib.decDigits n := by
  unfold numberI at h ⊢
  split
  · rename_i h1
    rw [if_pos h1] at h
    cases hd : Lib.decFrom 0 l with
    | none => rw [hd] at h; simp at h
    | some n =>
      refine ⟨n, rfl, ?_⟩
      have hlen : 0 < l.length := List.length_pos_iff.2 h1.2.1
      exact dec_of (l.length - 1) l n (by omega) hd h1.2.2
  · rename_i h1
    rw [if_neg h1] at h
    simp at h

theorem secRest_is (r : Bytes) : secT (secM.isPrefixOf r) ++ secRest r = r := by
  unfold secRest
  cases hp : secM.isPrefixOf r with
  | true => exact (prefix_drop hp).symm
  | false => rfl
theorem refTail_some {name val path : Bytes} {age : Int} {r : Bytes} {c : C} (h : refTail name val path age r = some c) : right c = true ∧ c.name = name ∧ c.val = val ∧ c.path = path ∧ c.age = age ∧ secT c.sec ++ httpT c.http = r := by
  unfold refTail at h
  split at h
  · rename_i h1
    injection h with h
    subst h
    refine ⟨h1.2, rfl, rfl, rfl, rfl, ?_⟩
    have e := secRest_is r
    show secT (secM.isPrefixOf r) ++ httpT (decide (secRest r = httpM)) = r
    rcases h1.1 with hx | hx
    · rw [show httpT (decide (secRest r = httpM)) = httpM by simp [hx, httpT]]
      rw [hx] at e
      exact e
    · rw [hx] at e ⊢
      exact e
  · cases h
theorem refMid_some {name val r2 : Bytes} {c : C} (h : refMid name val r2 = some c) : right c = true ∧ c.name = name ∧ c.val = val ∧ c.path ++ (ageT c.age ++ (secT c.sec ++ httpT c.http)) = r2 := by
  unfold refMid at h
  split at h
  · rename_i hp
    split at h
    · cases h
    · rename_i hn
      obtain ⟨n, h1, h2⟩ := number_is hn
      obtain ⟨hr, e1, e2, e3, e4, e5⟩ := refTail_some h
      refine ⟨hr, e1, e2, ?_⟩
      rw [e3, e4, e5, h1]
      have ea : ageT (n : Int) = ageM ++ Lib.decDigits n := by
        unfold ageT
        rw [if_neg (by omega), Int.toNat_natCast]
      rw [ea, ← h2, List.append_assoc, tw_dw]
      have := prefix_drop hp
      rw [show ageM.length = 10 from rfl] at this
      rw [← this, tw_dw]
  · obtain ⟨hr, e1, e2, e3, e4, e5⟩ := refTail_some h
    refine ⟨hr, e1, e2, ?_⟩
    rw [e3, e4, e5]
    show tw r2 ++ ([] ++ dw r2) = r2
    rw [List.nil_append, tw_dw]
theorem cut_whole : ∀ (l a b : Bytes), cutAt 61 l = (a, b, true) → l = a ++ 61 :: b
  | [], a, b, h => by simp [cutAt] at h
  | x :: r, a, b, h => by
    by_cases hx : x = 61
    · subst hx
      rw [Pct.cutAt_hit] at h
      injection h with h1 h2
      injection h2 with h2 _
      subst h1 h2
      rfl
    · rw [Pct.cutAt_other 61 x r hx] at h
      injection h with h1 h2
      injection h2 with h2 h3
      have := cut_whole r (cutAt 61 r).1 b (by rw [← h2, ← h3])
      rw [← h1, List.cons_append, ← this]
theorem refRead_some {s : Bytes} {c : C} (h : refRead s = some c) : right c = true ∧ set c = s := by
  unfold refRead at h
  split at h
  · rename_i h1
    obtain ⟨hr, e1, e2, e3⟩ := refMid_some h
    refine ⟨hr, ?_⟩
    obtain ⟨a, b, f, hc⟩ : ∃ a b f, cutAt 61 s = (a, b, f) := ⟨_, _, _, rfl⟩
    rw [hc] at h1 e1 e2 e3
    simp only at h1 e1 e2 e3
    rw [h1.1] at hc
    have hp := prefix_drop h1.2
    rw [show pathM.length = 7 from rfl] at hp
    rw [set_is, e3, e1, e2, ← hp, cut_whole s a b hc, List.append_assoc, List.cons_append, tw_dw]
  · cases h
theorem refTail_set {c : C} (h : right c = true) : refTail c.name c.val c.path c.age (secT c.sec ++ httpT c.http) = some c := by
  obtain ⟨n, v, p, a, s, t⟩ := c
  unfold refTail
  have hx : ∀ s t : Bool, secM.isPrefixOf (secT s ++ httpT t) = s ∧ secRest (secT s ++ httpT t) = httpT t := by
    intro s t
    cases s <;> cases t <;> exact ⟨rfl, rfl⟩
  obtain ⟨h1, h2⟩ := hx s t
  have h3 : decide (httpT t = httpM) = t := by cases t <;> rfl
  simp only
  rw [h2, h1, h3, if_pos]
  refine ⟨?_, h⟩
  cases t
  · exact .inr rfl
  · exact .inl rfl
theorem refRead_set {c : C} (h : right c = true) : refRead (set c) = some c := by
  obtain ⟨⟨ha1, ha2⟩, hn, hv, hp⟩ := right_parts h
  have e1 : cutAt 61 (set c) = (c.name, c.val ++ (pathM ++ (c.path ++ (ageT c.age ++ (secT c.sec ++ httpT c.http)))), true) := by
    rw [set_is, List.append_assoc, List.cons_append]
    exact Pct.cutAt_first 61 _ _ fun x hx => (hn x hx).1
  have e2 := tw_mk (y := pathM ++ (c.path ++ (ageT c.age ++ (secT c.sec ++ httpT c.http)))) hv (.inr ⟨_, rfl⟩)
  have e3 := tw_mk hp (mk_age c.age c.sec c.http)
  unfold refRead
  rw [e1]
  simp only
  rw [e2.1, e2.2, if_pos (show True ∧ pathM.isPrefixOf (pathM ++ (c.path ++ (ageT c.age ++ (secT c.sec ++ httpT c.http)))) = true from ⟨trivial, by rw [List.isPrefixOf_iff_prefix]; exact ⟨_, rfl⟩⟩)]
  rw [show (pathM ++ (c.path ++ (ageT c.age ++ (secT c.sec ++ httpT c.http)))).drop 7 = c.path ++ (ageT c.age ++ (secT c.sec ++ httpT c.http)) from List.drop_left (l₁ := pathM)]
  unfold refMid
  rw [e3.1, e3.2]
  by_cases hage : c.age = -1
  · rw [show ageT c.age = [] by unfold ageT; rw [if_pos hage], List.nil_append]
    have hno : ∀ a b : Bool, ageM.isPrefixOf (secT a ++ httpT b) = false := by intro a b; cases a <;> cases b <;> rfl
    rw [if_neg (by rw [hno]; simp), ← hage]
    exact refTail_set h
  · have ea : ageT c.age = ageM ++ Lib.decDigits c.age.toNat := by unfold ageT; rw [if_neg hage]
    rw [ea, List.append_assoc, if_pos (by rw [List.isPrefixOf_iff_prefix]; exact ⟨_, rfl⟩)]
    rw [show (ageM ++ (Lib.decDigits c.age.toNat ++ (secT c.sec ++ httpT c.http))).drop 10 = Lib.decDigits c.age.toNat ++ (secT c.sec ++ httpT c.http) from List.drop_left (l₁ := ageM)]
    have e4 := tw_mk (dec_no c.age.toNat) (mk_flags c.sec c.http)
    rw [e4.1, e4.2, number_dec _ (by omega), if_neg (by omega), show ((c.age.toNat : Nat) : Int) = c.age by omega]
    exact refTail_set h
/-- BOTH WAYS TELL THE SAME. -/
theorem refRead_is (s : Bytes) : refRead s = read s := by
  cases h : refRead s with
  | some c =>
    obtain ⟨h1, h2⟩ := refRead_some h
    rw [← h2, read_set h1]
  | none =>
    cases h2 : read s with
    | none => rfl
    | some c =>
      obtain ⟨h3, h4⟩ := read_some h2
      rw [← h4, refRead_set h3] at h
      cases h
end Ck
end Go.Proofs.YtpdilhnbbokipaaDoor
