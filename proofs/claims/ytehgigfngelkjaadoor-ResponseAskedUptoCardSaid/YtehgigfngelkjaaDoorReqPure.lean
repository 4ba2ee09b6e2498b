/- The plain functions of requests: lines, the first line, headers, lengths, what bytes read as. -/
import Derived.Test.YtehgigfngelkjaaDoorForms
import Derived.Lib.CutLaws
import Derived.Lib.SlTrimSet
import Derived.Lib.SplitLaws
namespace Go.Proofs.YtehgigfngelkjaaDoor
namespace Req
open Pct (Bytes PairL)

theorem byte_all {P : UInt8 → Bool} (h : ∀ n : Nat, n < 256 → P (UInt8.ofNat n) = true) (c : UInt8) : P c = true := by
  have := h c.toNat (UInt8.toNat_lt c)
  simpa using this

/-! ### Lines -/
def crlf : Bytes := [13, 10]
def line (l : Bytes) : Option (Bytes × Bytes) :=
  if 0 ≤ Lib.index l crlf then some (l.take (Lib.index l crlf).toNat, l.drop ((Lib.index l crlf).toNat + 2)) else none
theorem line_nil : line [] = none := by decide
theorem line_hit (r : Bytes) : line (13 :: 10 :: r) = some ([], r) := by
  unfold line
  have : Lib.index (13 :: 10 :: r) crlf = 0 := by
    unfold Lib.index
    rw [if_pos (by simp [crlf, List.isPrefixOf])]
  rw [this]
  simp
theorem line_other (c : UInt8) (r : Bytes) (h : crlf.isPrefixOf (c :: r) = false) : line (c :: r) = (line r).map fun p => (c :: p.1, p.2) := by
  unfold line
  have hge := Lib.index_ge r crlf
  have : Lib.index (c :: r) crlf = if Lib.index r crlf == -1 then -1 else Lib.index r crlf + 1 := by
    conv => lhs; unfold Lib.index
    rw [if_neg (by rw [h]; simp)]
  rw [this]
  by_cases h1 : Lib.index r crlf = -1
  · rw [h1]; simp
  · have h2 : ¬ (Lib.index r crlf == -1) = true := by rw [beq_iff_eq]; exact h1
    rw [if_neg h2, if_pos (by omega), if_pos (by omega)]
    have e : (Lib.index r crlf + 1).toNat = (Lib.index r crlf).toNat + 1 := by omega
    rw [e]
    simp
theorem pre2 (c d : UInt8) (r : Bytes) : crlf.isPrefixOf (c :: d :: r) = (c == 13 && d == 10) := by
  simp only [crlf, List.isPrefixOf, Bool.and_true]
  rw [show ((13 : UInt8) == c) = (c == 13) from by rw [Bool.eq_iff_iff, beq_iff_eq, beq_iff_eq]; exact eq_comm, show ((10 : UInt8) == d) = (d == 10) from by rw [Bool.eq_iff_iff, beq_iff_eq, beq_iff_eq]; exact eq_comm]
theorem pre1 (c : UInt8) : crlf.isPrefixOf [c] = false := by simp [crlf, List.isPrefixOf]
theorem line_parts : ∀ {l a b : Bytes}, line l = some (a, b) → l = a ++ 13 :: 10 :: b
  | [], a, b, h => by rw [line_nil] at h; cases h
  | c :: r, a, b, h => by
    by_cases hp : crlf.isPrefixOf (c :: r) = true
    · cases r with
      | nil => rw [pre1] at hp; cases hp
      | cons d r =>
        rw [pre2] at hp
        simp at hp
        rw [hp.1, hp.2, line_hit] at h
        cases h
        rw [hp.1, hp.2]
        rfl
    · rw [line_other c r (Bool.eq_false_iff.2 hp)] at h
      cases hl : line r with
      | none => rw [hl] at h; cases h
      | some p =>
        rw [hl] at h
        obtain ⟨x, y⟩ := p
        cases h
        rw [line_parts hl]
        rfl
theorem line_len {l a b : Bytes} (h : line l = some (a, b)) : a.length + b.length + 2 = l.length := by
  rw [line_parts h]
  simp
  omega
theorem line_app (m : Bytes) : ∀ {l a b : Bytes}, line l = some (a, b) → line (l ++ m) = some (a, b ++ m)
  | [], a, b, h => by rw [line_nil] at h; cases h
  | c :: r, a, b, h => by
    by_cases hp : crlf.isPrefixOf (c :: r) = true
    · cases r with
      | nil => rw [pre1] at hp; cases hp
      | cons d r =>
        rw [pre2] at hp
        simp at hp
        rw [hp.1, hp.2, line_hit] at h
        cases h
        rw [hp.1, hp.2]
        exact line_hit _
    · rw [line_other c r (Bool.eq_false_iff.2 hp)] at h
      cases hl : line r with
      | none => rw [hl] at h; cases h
      | some p =>
        rw [hl] at h
        obtain ⟨x, y⟩ := p
        cases h
        have ih := line_app m hl
        cases r with
        | nil => rw [line_nil] at hl; cases hl
        | cons d r =>
          rw [List.cons_append, line_other c _ (by rw [List.cons_append, pre2, ← pre2 c d r]; exact Bool.eq_false_iff.2 hp), ih]
          rfl
theorem line_clean (b : Bytes) : ∀ a : Bytes, (∀ x ∈ a, x ≠ 13) → line (a ++ 13 :: 10 :: b) = some (a, b)
  | [], _ => line_hit b
  | c :: a, h => by
    have hc := h c (by simp)
    rw [List.cons_append, line_other c _ (by simp [crlf, List.isPrefixOf]; intro e; exact absurd e.symm hc), line_clean b a (fun x hx => h x (by simp [hx]))]
    rfl
theorem line_short : ∀ {l a b : Bytes} (k : Nat), line l = some (a, b) → k < a.length + 2 → line (l.take k) = none
  | [], a, b, _, h, _ => by rw [line_nil] at h; cases h
  | c :: r, a, b, k, h, hk => by
    cases k with
    | zero => exact line_nil
    | succ k =>
      rw [List.take_succ_cons]
      by_cases hp : crlf.isPrefixOf (c :: r) = true
      · cases r with
        | nil => rw [pre1] at hp; cases hp
        | cons d r =>
          rw [pre2] at hp
          simp at hp
          rw [hp.1, hp.2, line_hit] at h
          cases h
          simp at hk
          obtain rfl : k = 0 := by omega
          rw [List.take_zero, line_other c [] (pre1 c), line_nil]
          rfl
      · rw [line_other c r (Bool.eq_false_iff.2 hp)] at h
        cases hl : line r with
        | none => rw [hl] at h; cases h
        | some p =>
          rw [hl] at h
          obtain ⟨x, y⟩ := p
          cases h
          have ih := line_short k hl (by simp at hk; omega)
          cases hr : r.take k with
          | nil => rw [line_other c [] (pre1 c), line_nil]; rfl
          | cons d r' =>
            rw [hr] at ih
            cases r with
            | nil => rw [line_nil] at hl; cases hl
            | cons d0 r0 =>
              have hd : d = d0 := by
                cases k with
                | zero => cases hr
                | succ k => rw [List.take_succ_cons] at hr; cases hr; rfl
              subst hd
              rw [line_other c _ (by rw [pre2, ← pre2 c d r0]; exact Bool.eq_false_iff.2 hp), ih]
              rfl
theorem line_take {l a b : Bytes} (k : Nat) (h : line l = some (a, b)) (hk : a.length + 2 ≤ k) : line (l.take k) = some (a, b.take (k - (a.length + 2))) := by
  have hp := line_parts h
  have e : l.take k = (a ++ [13, 10]) ++ b.take (k - (a.length + 2)) := by
    rw [hp, show a ++ 13 :: 10 :: b = (a ++ [13, 10]) ++ b by simp, List.take_append, List.take_of_length_le (by simp; omega)]
    simp
  have h2 : line (a ++ [13, 10]) = some (a, []) := by
    have := line_short (l := l) (a := a) (b := b) (a.length + 1) h (by omega)
    -- the first end of l lies behind a
    exact line_end a (by
      have e2 : l.take (a.length + 1) = a ++ [13] := by
        rw [hp, show a ++ 13 :: 10 :: b = (a ++ [13]) ++ 10 :: b by simp, List.take_append, List.take_of_length_le (by simp)]
        simp
      rwa [e2] at this)
  rw [e, line_app _ h2]
  simp
where
  line_end : ∀ a : Bytes, line (a ++ [13]) = none → line (a ++ [13, 10]) = some (a, [])
  | [], _ => line_hit []
  | c :: a, h => by
    have hp : crlf.isPrefixOf (c :: (a ++ [13])) = false := by
      cases hh : crlf.isPrefixOf (c :: (a ++ [13])) with
      | false => rfl
      | true =>
        exfalso
        cases a with
        | nil => simp [crlf, List.isPrefixOf] at hh
        | cons d a =>
          rw [List.cons_append, pre2] at hh
          simp at hh
          rw [List.cons_append, List.cons_append, hh.1, hh.2, line_hit] at h
          cases h
    have hp2 : crlf.isPrefixOf (c :: (a ++ [13, 10])) = false := by
      cases a with
      | nil =>
        simp [crlf, List.isPrefixOf]
      | cons d a => rw [List.cons_append, pre2] at hp ⊢; exact hp
    rw [List.cons_append, line_other c _ hp] at h
    rw [List.cons_append, line_other c _ hp2, line_end a (by
      cases hl : line (a ++ [13]) with
      | none => rfl
      | some p => rw [hl] at h; cases h)]
    rfl

/-! ### Bytes -/
def inB (lo hi : Nat) (c : UInt8) : Bool := decide (lo ≤ c.toNat ∧ c.toNat ≤ hi)
def within (lo hi : Nat) (s : Bytes) : Bool := s.all (inB lo hi)
def tokB (c : UInt8) : Bool := decide (97 ≤ c.toNat ∧ c.toNat ≤ 122 ∨ 65 ≤ c.toNat ∧ c.toNat ≤ 90 ∨ 48 ≤ c.toNat ∧ c.toNat ≤ 57 ∨ c.toNat = 45)
def token (s : Bytes) : Bool := !s.isEmpty && s.all tokB
def isTarget (s : Bytes) : Bool := (s.head? == some 47) && within 33 126 s
def isMethod (s : Bytes) : Bool := !s.isEmpty && within 65 90 s
def get : Bytes := [71, 69, 84]
def post : Bytes := [80, 79, 83, 84]
def version : Bytes := [72, 84, 84, 80, 47, 49, 46, 49]
def known (s : Bytes) : Bool := s == get || s == post
def isText (s : Bytes) : Bool := within 32 126 s && (Lib.trimS s [32] == s)
theorem tok_plain (c : UInt8) : tokB c = (Pct.plainB c && !(c == 46) && !(c == 95) && !(c == 126)) := by
  have := byte_all (P := fun c => tokB c == (Pct.plainB c && !(c == 46) && !(c == 95) && !(c == 126))) (by decide +kernel) c
  simpa using this

/-! ### The first line -/
def first (l : Bytes) : Except Nat (Bytes × Bytes) :=
  match Pct.split 32 l with
  | [m, t, v] => if isMethod m && isTarget t && (v == version) then (if known m then .ok (m, t) else .error 16) else .error 17
  | _ => .error 17

/-! ### Headers -/
def trim (l : Bytes) : Bytes := Lib.trimS l [32, 9]
def header (l : Bytes) : Option PairL :=
  if (Pct.cutAt 58 l).2.2 && token (Pct.cutAt 58 l).1 && isText (trim (Pct.cutAt 58 l).2.1) then some ((Pct.cutAt 58 l).1, trim (Pct.cutAt 58 l).2.1) else none
def heads : Nat → Bytes → Except Nat (List PairL × Bytes)
  | k, r => match line r with
    | none => .error 3
    | some (l, r') =>
      if l = [] then .ok ([], r')
      else match k with
        | 0 => .error 5
        | k + 1 => match header l with
          | none => .error 18
          | some h => (heads k r').map fun p => (h :: p.1, p.2)


def low (c : UInt8) : UInt8 := if 65 ≤ c.toNat ∧ c.toNat ≤ 90 then c + 32 else c
def alike (a b : Bytes) : Bool := decide (a.map low = b.map low)
def hdrN (name : Bytes) (l : List PairL) : Nat := (l.filter fun q => alike q.1 name).length
def hdrV (name : Bytes) : List PairL → Bytes
  | [] => []
  | q :: l => if alike q.1 name then q.2 else hdrV name l
def te : Bytes := [116, 114, 97, 110, 115, 102, 101, 114, 45, 101, 110, 99, 111, 100, 105, 110, 103]
def cl : Bytes := [99, 111, 110, 116, 101, 110, 116, 45, 108, 101, 110, 103, 116, 104]
def val (s : Bytes) : Nat := s.foldl (fun n c => 10 * n + (c.toNat - 48)) 0
def number (s : Bytes) : Option Nat := if !s.isEmpty && decide (s.length ≤ 4) && within 48 57 s then some (val s) else none
def bodyLen (l : List PairL) : Option Nat :=
  if 0 < hdrN te l then none
  else if hdrN cl l = 0 then some 0
  else if hdrN cl l = 1 then number (hdrV cl l)
  else none

structure R where
  method : Bytes
  target : Bytes
  heads : List PairL
  body : Bytes

def parse (s : Bytes) : Except Nat R :=
  if 4096 < s.length then .error 2
  else match line s with
    | none => .error 3
    | some (l, r) => match first l with
      | .error e => .error e
      | .ok (m, t) => match heads 32 r with
        | .error e => .error e
        | .ok (hs, b) => match bodyLen hs with
          | none => .error 18
          | some n => if b.length < n then .error 3 else if n < b.length then .error 9 else .ok ⟨m, t, hs, b⟩
end Req
end Go.Proofs.YtehgigfngelkjaaDoor
