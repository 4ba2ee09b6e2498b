/- Plain functions for cookies that are read: what is set is read, and by whichever of two ways; no program stands in it. No condition. -/
import Derived.Test.YtehgigfngelkjaaDoorCkC
import Derived.Lib.Strings
import Derived.Lib.IndexMore
import Derived.Lib.AtoiTie
namespace Go.Proofs.YtehgigfngelkjaaDoor
set_option maxRecDepth 8000
namespace Ck
open Pct (PairL cutAt split)

def atoiV (l : Bytes) : Int :=
  match Lib.atoiAll l with
  | .ok v => v
  | Lib.NumEnd.syntax => 0
  | .range => Lib.atoiSat l
def guess (s : Bytes) : C :=
  ⟨(cutAt 61 (Lib.cut s pathM).1).1, (cutAt 61 (Lib.cut s pathM).1).2.1,
   (Lib.cut (Lib.trimSuffix (Lib.trimSuffix (Lib.cut s pathM).2.1 httpM) secM) ageM).1,
   if (Lib.cut (Lib.trimSuffix (Lib.trimSuffix (Lib.cut s pathM).2.1 httpM) secM) ageM).2.2 = true then atoiV (Lib.cut (Lib.trimSuffix (Lib.trimSuffix (Lib.cut s pathM).2.1 httpM) secM) ageM).2.1 else -1,
   Lib.hasSuffix (Lib.trimSuffix (Lib.cut s pathM).2.1 httpM) secM, Lib.hasSuffix (Lib.cut s pathM).2.1 httpM⟩
def read (s : Bytes) : Option C := if right (guess s) = true ∧ set (guess s) = s then some (guess s) else none

/-! ### Digits -/
theorem dec_few {n : Nat} (h : n < 10) : Lib.decDigits n = [UInt8.ofNat (48 + n)] := by rw [Lib.decDigits, dif_pos h]
theorem dec_more {n : Nat} (h : ¬ n < 10) : Lib.decDigits n = Lib.decDigits (n / 10) ++ [UInt8.ofNat (48 + n % 10)] := by rw [Lib.decDigits, dif_neg h]
theorem digit_nat {d : Nat} (h : d < 10) : (UInt8.ofNat (48 + d)).toNat = 48 + d := by
  rw [UInt8.toNat_ofNat']
  omega
theorem dec_range (n : Nat) : ∀ x ∈ Lib.decDigits n, 48 ≤ x.toNat ∧ x.toNat ≤ 57 := by
  induction n using Nat.strongRecOn with
  | ind n ih =>
    intro x hx
    by_cases h : n < 10
    · rw [dec_few h, List.mem_singleton] at hx
      subst hx
      rw [digit_nat h]
      omega
    · rw [dec_more h, List.mem_append, List.mem_singleton] at hx
      rcases hx with hx | rfl
      · exact ih (n / 10) (by omega) x hx
      · rw [digit_nat (by omega)]
        omega
theorem dec_no (n : Nat) : ∀ x ∈ Lib.decDigits n, x ≠ 59 := by
  intro x hx h
  have := dec_range n x hx
  subst h
  have e : (59 : UInt8).toNat = 59 := rfl
  omega
theorem decFrom_append (b : Bytes) : ∀ (a : Bytes) (acc n : Nat), Lib.decFrom acc a = some n → Lib.decFrom acc (a ++ b) = Lib.decFrom n b
  | [], acc, n, h => by
    simp [Lib.decFrom] at h
    subst h
    rfl
  | x :: r, acc, n, h => by
    rw [List.cons_append]
    rw [Lib.decFrom] at h ⊢
    cases hd : Lib.digitVal x with
    | none => rw [hd] at h; cases h
    | some d =>
      rw [hd] at h
      exact decFrom_append b r _ n h
theorem decFrom_dec (n : Nat) : Lib.decFrom 0 (Lib.decDigits n) = some n := by
  induction n using Nat.strongRecOn with
  | ind n ih =>
    have hv : ∀ d, d < 10 → Lib.digitVal (UInt8.ofNat (48 + d)) = some d := fun d hd => by
      unfold Lib.digitVal
      rw [digit_nat hd, if_pos (by omega)]
      congr 1
      omega
    by_cases h : n < 10
    · rw [dec_few h, Lib.decFrom, hv n h]
      simp [Lib.decFrom]
    · rw [dec_more h, decFrom_append _ _ 0 (n / 10) (ih (n / 10) (by omega))]
      simp only [Lib.decFrom, hv (n % 10) (by omega)]
      congr 1
      omega
theorem dec_ne (n : Nat) : Lib.decDigits n ≠ [] := by
  rw [Lib.decDigits]
  split <;> simp
theorem dec_len8 : ∀ (k m : Nat), m < 10 ^ (k + 1) → (Lib.decDigits m).length ≤ k + 1
  | 0, m, hm => by rw [dec_few (by omega)]; simp
  | k + 1, m, hm => by
    by_cases h : m < 10
    · rw [dec_few h]; simp
    · rw [dec_more h, List.length_append]
      have := dec_len8 k (m / 10) (by rw [Nat.pow_succ] at hm; omega)
      simp
      omega
theorem dec_long : ∀ (k m : Nat), 10 ^ k ≤ m → k + 1 ≤ (Lib.decDigits m).length
  | 0, m, _ => by
    have := dec_ne m
    have : 0 < (Lib.decDigits m).length := List.length_pos_iff.2 this
    omega
  | k + 1, m, hm => by
    have h10 : ¬ m < 10 := by
      have : 10 ^ 1 ≤ 10 ^ (k + 1) := Nat.pow_le_pow_right (by omega) (by omega)
      omega
    rw [dec_more h10, List.length_append]
    have := dec_long k (m / 10) (by rw [Nat.pow_succ] at hm; omega)
    simp
    omega
theorem atoi_dec (n : Nat) (h : n ≤ 99999999) : atoiV (Lib.decDigits n) = n := by
  have hl : (Lib.decDigits n).length ≤ 18 := by
    have := dec_len8 7 n (by omega)
    omega
  have hd : Lib.decNat (Lib.decDigits n) = some n := by
    unfold Lib.decNat
    rw [if_neg (by
      rw [List.isEmpty_iff]
      exact dec_ne n)]
    exact decFrom_dec n
  have hr := dec_range n
  unfold atoiV
  cases hs : Lib.decDigits n with
  | nil => exact absurd hs (dec_ne n)
  | cons c r =>
    have hc := hr c (by rw [hs]; simp)
    rw [Lib.atoiAll_plain c r (by omega) (by omega), ← hs, Lib.signless_short hl, hd]
    rfl

/-! ### Marks -/
theorem index_at (m b : Bytes) : ∀ a : Bytes, (∀ x ∈ a, x ≠ 59) → Lib.index (a ++ ((59 :: m) ++ b)) (59 :: m) = (a.length : Int)
  | [], _ => by
    rw [List.nil_append, List.cons_append, Lib.index, if_pos]
    · rfl
    · rw [List.isPrefixOf_iff_prefix]
      exact ⟨b, rfl⟩
  | x :: a, h => by
    have ih := index_at m b a (fun y hy => h y (by simp [hy]))
    rw [List.cons_append, Lib.index, if_neg, ih, if_neg]
    · simp
    · simp
    · intro hp
      rw [List.isPrefixOf_iff_prefix] at hp
      obtain ⟨t, ht⟩ := hp
      rw [List.cons_append] at ht
      injection ht with h1 h2
      exact h x (by simp) h1.symm
theorem index_out (m : Bytes) : ∀ a : Bytes, (∀ x ∈ a, x ≠ 59) → Lib.index a (59 :: m) = -1
  | [], _ => by rw [Lib.index]; rfl
  | x :: a, h => by
    have ih := index_out m a (fun y hy => h y (by simp [hy]))
    rw [Lib.index, if_neg, ih, if_pos]
    · rfl
    · intro hp
      rw [List.isPrefixOf_iff_prefix] at hp
      obtain ⟨t, ht⟩ := hp
      rw [List.cons_append] at ht
      injection ht with h1 h2
      exact h x (by simp) h1.symm
theorem cut_at59 (m a b : Bytes) (h : ∀ x ∈ a, x ≠ 59) : Lib.cut (a ++ ((59 :: m) ++ b)) (59 :: m) = (a, b, true) := by
  unfold Lib.cut
  rw [index_at m b a h, if_pos (by omega), Int.toNat_natCast]
  have e : (a ++ ((59 :: m) ++ b)).drop (a.length + (59 :: m).length) = b := by
    rw [← List.drop_drop, List.drop_left, List.drop_left]
  rw [e, List.take_left]
theorem cut_out59 (m a : Bytes) (h : ∀ x ∈ a, x ≠ 59) : Lib.cut a (59 :: m) = (a, [], false) := by
  unfold Lib.cut
  rw [index_out m a h, if_neg (by omega)]
theorem suffix_in {m u x : Bytes} (hu : ∀ y ∈ u, y ≠ 59) (h : (59 :: m) <:+ (u ++ x)) : (59 :: m) <:+ x := by
  obtain ⟨y, hy⟩ := h
  rcases List.append_eq_append_iff.1 hy with ⟨a', h1, h2⟩ | ⟨c', h1, h2⟩
  · cases a' with
    | nil => rw [List.nil_append] at h2; rw [← h2]; exact List.suffix_refl _
    | cons z a' =>
      rw [List.cons_append] at h2
      injection h2 with h2 _
      exact absurd h2.symm (hu z (by rw [h1]; simp))
  · exact ⟨c', h2.symm⟩
theorem has_end (a p : Bytes) : Lib.hasSuffix (a ++ p) p = true := by
  unfold Lib.hasSuffix
  rw [List.isSuffixOf_iff_suffix]
  exact ⟨a, rfl⟩
theorem trim_end (a p : Bytes) : Lib.trimSuffix (a ++ p) p = a := by
  unfold Lib.trimSuffix
  rw [if_pos (has_end a p), List.length_append, Nat.add_sub_cancel, List.take_left]
theorem has_no {l p : Bytes} (h : ¬ p <:+ l) : Lib.hasSuffix l p = false := by
  unfold Lib.hasSuffix
  rw [← Bool.not_eq_true, List.isSuffixOf_iff_suffix]
  exact h
theorem trim_no {l p : Bytes} (h : ¬ p <:+ l) : Lib.trimSuffix l p = l := by
  unfold Lib.trimSuffix
  rw [if_neg (by rw [has_no h]; simp)]

def ageR : Bytes := [32, 77, 97, 120, 45, 65, 103, 101, 61]
theorem ageM_is : ageM = 59 :: ageR := rfl
theorem ageR_no (n : Nat) : ∀ x ∈ ageR ++ Lib.decDigits n, x ≠ 59 := by
  intro x hx
  rw [List.mem_append] at hx
  rcases hx with hx | hx
  · have : ∀ x ∈ ageR, x ≠ 59 := by decide
    exact this x hx
  · exact dec_no n x hx
/-- Marks of another kind behind an age, or behind nothing. -/
theorem age_end {m t : Bytes} {n : Int} (hm : ∀ r : Bytes, m ≠ 32 :: 77 :: r) (h : (59 :: m) <:+ ageT n ++ t) : (59 :: m) <:+ t := by
  unfold ageT at h
  split at h
  · exact h
  · rw [ageM_is, List.cons_append, List.cons_append] at h
    rcases List.suffix_cons_iff.1 h with h1 | h1
    · injection h1 with _ h1
      exact absurd h1 (hm _)
    · exact suffix_in (ageR_no _) h1
theorem sec_end {b : Bool} (h : httpM <:+ secT b) : False := by
  have := h.length_le
  cases b
  · simp [secT, httpM] at this
  · simp [secT, httpM, secM] at this

theorem right_parts {c : C} (h : right c = true) : (-1 ≤ c.age ∧ c.age ≤ 99999999) ∧ (∀ x ∈ c.name, x ≠ 61 ∧ x ≠ 59) ∧ (∀ x ∈ c.val, x ≠ 59) ∧ ∀ x ∈ c.path, x ≠ 59 := by
  unfold right token value at h
  simp only [Bool.and_eq_true, decide_eq_true_eq] at h
  obtain ⟨h1, h2, ⟨_, h3⟩, h4, _, h5⟩ := h
  refine ⟨⟨h1, h2⟩, fun x hx => ?_, fun x hx => (valB_no x (List.all_eq_true.1 h4 x hx)).1, fun x hx => (valB_no x (List.all_eq_true.1 h5 x hx)).1⟩
  have := tokB_no x (List.all_eq_true.1 h3 x hx)
  exact ⟨this.1, this.2.1⟩
theorem set_is (c : C) : set c = (c.name ++ 61 :: c.val) ++ (pathM ++ (c.path ++ (ageT c.age ++ (secT c.sec ++ httpT c.http)))) := by
  unfold set
  simp only [List.append_assoc, List.cons_append, List.nil_append]
theorem first_no {c : C} (h : right c = true) : ∀ x ∈ c.name ++ 61 :: c.val, x ≠ 59 := by
  obtain ⟨_, hn, hv, _⟩ := right_parts h
  intro x hx
  rw [List.mem_append, List.mem_cons] at hx
  rcases hx with hx | rfl | hx
  · exact (hn x hx).2
  · decide
  · exact hv x hx
/-- WHAT IS SET IS GUESSED. -/
theorem guess_set {c : C} (h : right c = true) : guess (set c) = c := by
  obtain ⟨⟨ha1, ha2⟩, hn, hv, hp⟩ := right_parts h
  have e1 : Lib.cut (set c) pathM = (c.name ++ 61 :: c.val, c.path ++ (ageT c.age ++ (secT c.sec ++ httpT c.http)), true) := by
    rw [set_is]
    exact cut_at59 _ _ _ (first_no h)
  have e2 : cutAt 61 (c.name ++ 61 :: c.val) = (c.name, c.val, true) := Pct.cutAt_first 61 _ _ fun x hx => (hn x hx).1
  have e3 : Lib.hasSuffix (c.path ++ (ageT c.age ++ (secT c.sec ++ httpT c.http))) httpM = c.http ∧ Lib.trimSuffix (c.path ++ (ageT c.age ++ (secT c.sec ++ httpT c.http))) httpM = c.path ++ (ageT c.age ++ secT c.sec) := by
    cases hh : c.http with
    | true =>
      rw [show httpT true = httpM from rfl, ← List.append_assoc (ageT c.age), ← List.append_assoc c.path]
      exact ⟨has_end _ _, trim_end _ _⟩
    | false =>
      rw [show httpT false = [] from rfl, List.append_nil]
      have hno : ¬ httpM <:+ c.path ++ (ageT c.age ++ secT c.sec) := fun hs => sec_end (age_end (by intro r hr; cases hr) (suffix_in hp hs))
      exact ⟨has_no hno, trim_no hno⟩
  have e4 : Lib.hasSuffix (c.path ++ (ageT c.age ++ secT c.sec)) secM = c.sec ∧ Lib.trimSuffix (c.path ++ (ageT c.age ++ secT c.sec)) secM = c.path ++ ageT c.age := by
    cases hs : c.sec with
    | true =>
      rw [show secT true = secM from rfl, ← List.append_assoc c.path]
      exact ⟨has_end _ _, trim_end _ _⟩
    | false =>
      rw [show secT false = [] from rfl, List.append_nil]
      have hno : ¬ secM <:+ c.path ++ ageT c.age := fun hs => by
        have h1 := suffix_in hp hs
        rw [← List.append_nil (ageT c.age)] at h1
        have h2 := (age_end (by intro r hr; cases hr) h1).length_le
        simp at h2
      exact ⟨has_no hno, trim_no hno⟩
  have e5 : (Lib.cut (c.path ++ ageT c.age) ageM).1 = c.path ∧ (if (Lib.cut (c.path ++ ageT c.age) ageM).2.2 = true then atoiV (Lib.cut (c.path ++ ageT c.age) ageM).2.1 else -1) = c.age := by
    by_cases hage : c.age = -1
    · rw [show ageT c.age = [] by unfold ageT; rw [if_pos hage], List.append_nil]
      have := cut_out59 ageR c.path hp
      rw [ageM_is, this]
      exact ⟨rfl, by rw [if_neg (by simp), hage]⟩
    · rw [show ageT c.age = ageM ++ Lib.decDigits c.age.toNat by unfold ageT; rw [if_neg hage]]
      have := cut_at59 ageR c.path (Lib.decDigits c.age.toNat) hp
      rw [ageM_is, this]
      refine ⟨rfl, ?_⟩
      rw [if_pos rfl, atoi_dec _ (by omega)]
      omega
  unfold guess
  rw [e1]
  simp only
  rw [e2, e3.1, e3.2, e4.1, e4.2, e5.1, e5.2]
theorem read_set {c : C} (h : right c = true) : read (set c) = some c := by
  unfold read
  rw [guess_set h, if_pos ⟨h, rfl⟩]
theorem read_some {s : Bytes} {c : C} (h : read s = some c) : right c = true ∧ set c = s := by
  unfold read at h
  split at h
  · rename_i h1
    injection h with h
    subst h
    exact h1
  · cases h
theorem read_none {s : Bytes} (h : read s = none) : ∀ c, right c = true → set c ≠ s := by
  intro c hc hs
  rw [← hs, read_set hc] at h
  cases h
end Ck
end Go.Proofs.YtehgigfngelkjaaDoor
