/- Plain functions on responses that are read (lines, what is guessed, what is told), and what follows of them; no program stands in it. No condition. -/
import Derived.Test.YtehgigfngelkjaaDoorRspPure
import Derived.Test.YtehgigfngelkjaaDoorCkRead
import Derived.Test.YtehgigfngelkjaaDoorReqBack
import Derived.Lib.Split
import Derived.Lib.CountLaws
import Derived.Lib.IndexLaws
namespace Go.Proofs.YtehgigfngelkjaaDoor
set_option maxRecDepth 8000
namespace Rsp
open Pct (PairL)
abbrev Bytes := List UInt8

def sep2 : Bytes := [58, 32]
def gap : Bytes := [13, 10, 13, 10]
/-- No byte 13. -/
def no13 (l : Bytes) : Prop := ∀ x ∈ l, x ≠ 13

theorem index_hit0 (sub r : Bytes) : Lib.index (sub ++ r) sub = 0 := by
  refine Lib.index_first (i := 0) (Nat.zero_le _) ?_ (fun j h => absurd h (Nat.not_lt_zero _))
  simp [Lib.occAt]
theorem index_step (c : UInt8) (r sub : Bytes) (h : sub.isPrefixOf (c :: r) = false) : Lib.index (c :: r) sub = if Lib.index r sub == -1 then -1 else Lib.index r sub + 1 := by
  conv => lhs; unfold Lib.index
  rw [if_neg (by rw [h]; simp)]
theorem index_clean (d : UInt8) (t r : Bytes) : ∀ a : Bytes, (∀ x ∈ a, x ≠ d) → Lib.index (a ++ r) (d :: t) = if Lib.index r (d :: t) == -1 then -1 else Lib.index r (d :: t) + a.length
  | [], _ => by
    rw [List.nil_append]
    by_cases h : Lib.index r (d :: t) = -1
    · rw [h]; rfl
    · rw [if_neg (by rw [beq_iff_eq]; exact h)]; simp
  | c :: a, h => by
    have ih := index_clean d t r a (fun x hx => h x (List.mem_cons_of_mem _ hx))
    have hc : ((d :: t).isPrefixOf (c :: (a ++ r))) = false := by
      have : (d == c) = false := beq_eq_false_iff_ne.2 (fun e => h c (List.mem_cons_self ..) e.symm)
      simp [List.isPrefixOf, this]
    rw [List.cons_append, index_step c (a ++ r) (d :: t) hc, ih]
    have hge := Lib.index_ge r (d :: t)
    by_cases h1 : Lib.index r (d :: t) = -1
    · rw [h1]; rfl
    · have h2 : ¬ (Lib.index r (d :: t) == -1) = true := by rw [beq_iff_eq]; exact h1
      rw [if_neg h2, if_neg h2, if_neg (by rw [beq_iff_eq]; omega)]
      simp only [List.length_cons]
      omega
theorem cut_clean (d : UInt8) (t r a : Bytes) (h : ∀ x ∈ a, x ≠ d) : Lib.cut (a ++ ((d :: t) ++ r)) (d :: t) = (a, r, true) := by
  have h1 : Lib.index (a ++ ((d :: t) ++ r)) (d :: t) = (a.length : Int) := by
    rw [index_clean d t _ a h, index_hit0]
    simp
  unfold Lib.cut
  rw [h1, if_pos (by omega)]
  have e : ((a.length : Int)).toNat = a.length := by simp
  rw [e, List.take_left, ← List.drop_drop, List.drop_left, List.drop_left]
theorem cut_none (d : UInt8) (t a : Bytes) (h : ∀ x ∈ a, x ≠ d) : Lib.cut a (d :: t) = (a, [], false) := by
  have h0 : Lib.index [] (d :: t) = -1 := by simp [Lib.index]
  have h1 : Lib.index a (d :: t) = -1 := by
    have := index_clean d t [] a h
    rw [List.append_nil, h0] at this
    rw [this]; rfl
  unfold Lib.cut
  rw [h1, if_neg (by decide)]

/-! ### Lines, side by side -/
/-- Lines with their ends. -/
def lns (l : List Bytes) : Bytes := l.flatMap fun a => a ++ [13, 10]
/-- A line that holds something, and no byte 13. -/
def lineOk (a : Bytes) : Prop := a ≠ [] ∧ no13 a

/-- Lines, the end of the last one left out. -/
def join : List Bytes → Bytes
  | [] => []
  | [a] => a
  | a :: b :: r => a ++ ([13, 10] ++ join (b :: r))
theorem lns_join : ∀ l : List Bytes, l ≠ [] → lns l = join l ++ [13, 10]
  | [], h => absurd rfl h
  | [a], _ => by simp [lns, join]
  | a :: b :: r, _ => by
    have ih := lns_join (b :: r) (by simp)
    have e : lns (a :: b :: r) = a ++ [13, 10] ++ lns (b :: r) := rfl
    rw [e, ih]
    simp [join]
theorem pieces_join : ∀ l : List Bytes, l ≠ [] → (∀ a ∈ l, no13 a) → Lib.split (join l) Req.crlf = l
  | [], h, _ => absurd rfl h
  | [a], _, h => by
    have ha := h a (List.mem_cons_self ..)
    have hi : Lib.index a Req.crlf = -1 := by
      have := index_clean 13 [10] [] a ha
      rw [List.append_nil] at this
      rw [show Req.crlf = [13, 10] from rfl, this]
      rfl
    show Lib.splitK Req.crlf 0 (Lib.count a Req.crlf) a = [a]
    rw [Lib.count_miss hi]
    rfl
  | a :: b :: r, _, h => by
    have ha := h a (List.mem_cons_self ..)
    have ih := pieces_join (b :: r) (by simp) (fun x hx => h x (List.mem_cons_of_mem _ hx))
    have hi : Lib.index (join (a :: b :: r)) Req.crlf = (a.length : Int) := by
      have := index_clean 13 [10] ([13, 10] ++ join (b :: r)) a ha
      have e : join (a :: b :: r) = a ++ ([13, 10] ++ join (b :: r)) := rfl
      have h0 : Lib.index ([13, 10] ++ join (b :: r)) [13, 10] = 0 := index_hit0 [13, 10] _
      rw [show Req.crlf = [13, 10] from rfl, e, this, h0]
      simp
    have hd : (join (a :: b :: r)).drop (a.length + Req.crlf.length) = join (b :: r) := by
      have e : join (a :: b :: r) = a ++ ([13, 10] ++ join (b :: r)) := rfl
      rw [e, ← List.drop_drop, List.drop_left]
      rfl
    have ht : (join (a :: b :: r)).take (a.length + 0) = a := by
      have e : join (a :: b :: r) = a ++ ([13, 10] ++ join (b :: r)) := rfl
      rw [e, Nat.add_zero, List.take_left]
    show Lib.splitK Req.crlf 0 (Lib.count (join (a :: b :: r)) Req.crlf) (join (a :: b :: r)) = a :: b :: r
    rw [Lib.count_hit (by decide) hi, hd, Nat.add_comm]
    have hm : ¬ (Lib.index (join (a :: b :: r)) Req.crlf == -1) = true := by rw [hi, beq_iff_eq]; omega
    have e2 : ((a.length : Int)).toNat = a.length := by simp
    rw [Lib.splitK, if_neg hm, hi, e2, ht, hd]
    exact congrArg (a :: ·) ih
theorem index_gap (b : Bytes) : ∀ l : List Bytes, l ≠ [] → (∀ a ∈ l, lineOk a) → Lib.index (join l ++ (gap ++ b)) gap = ((join l).length : Int)
  | [], h, _ => absurd rfl h
  | [a], _, h => by
    have ha := (h a (List.mem_cons_self ..)).2
    have := index_clean 13 [10, 13, 10] (gap ++ b) a ha
    have h0 : Lib.index (gap ++ b) [13, 10, 13, 10] = 0 := index_hit0 gap b
    show Lib.index (a ++ (gap ++ b)) [13, 10, 13, 10] = (a.length : Int)
    rw [this, h0]
    simp
  | a :: c :: r, _, h => by
    have ha := (h a (List.mem_cons_self ..)).2
    obtain ⟨hc0, hc⟩ := h c (by simp)
    have ih := index_gap b (c :: r) (by simp) (fun x hx => h x (List.mem_cons_of_mem _ hx))
    have e : join (a :: c :: r) ++ (gap ++ b) = a ++ (13 :: 10 :: (join (c :: r) ++ (gap ++ b))) := by simp [join]
    obtain ⟨d, y, hy⟩ : ∃ d y, join (c :: r) = d :: y ∧ d ≠ 13 := by
      obtain ⟨d, c', rfl⟩ : ∃ d c', c = d :: c' := by
        cases c with
        | nil => exact absurd rfl hc0
        | cons d c' => exact ⟨d, c', rfl⟩
      refine ⟨d, ?_⟩
      cases r with
      | nil => exact ⟨c', rfl, hc d (List.mem_cons_self ..)⟩
      | cons f r => exact ⟨c' ++ ([13, 10] ++ join (f :: r)), rfl, hc d (List.mem_cons_self ..)⟩
    have h1 : Lib.index (13 :: 10 :: (join (c :: r) ++ (gap ++ b))) gap = ((join (c :: r)).length : Int) + 2 := by
      have p1 : gap.isPrefixOf (13 :: 10 :: (join (c :: r) ++ (gap ++ b))) = false := by
        rw [hy.1]
        have : ((13 : UInt8) == d) = false := beq_eq_false_iff_ne.2 (fun e => hy.2 e.symm)
        simp [gap, List.isPrefixOf, this]
      have p2 : gap.isPrefixOf (10 :: (join (c :: r) ++ (gap ++ b))) = false := by
        simp [gap, List.isPrefixOf]
      rw [index_step _ _ _ p1, index_step _ _ _ p2, ih]
      have g1 : ¬ (((join (c :: r)).length : Int) == -1) = true := by rw [beq_iff_eq]; omega
      rw [if_neg g1, if_neg (by rw [beq_iff_eq]; omega)]
      omega
    have := index_clean 13 [10, 13, 10] (13 :: 10 :: (join (c :: r) ++ (gap ++ b))) a ha
    rw [e]
    show Lib.index (a ++ (13 :: 10 :: (join (c :: r) ++ (gap ++ b)))) [13, 10, 13, 10] = _
    rw [this]
    have h2 : Lib.index (13 :: 10 :: (join (c :: r) ++ (gap ++ b))) [13, 10, 13, 10] = ((join (c :: r)).length : Int) + 2 := h1
    rw [h2, if_neg (by rw [beq_iff_eq]; omega)]
    simp only [join, List.length_append, List.length_cons, List.length_nil]
    omega
theorem cut_gap (b : Bytes) (l : List Bytes) (h0 : l ≠ []) (h : ∀ a ∈ l, lineOk a) : Lib.cut (join l ++ (gap ++ b)) gap = (join l, b, true) := by
  have h1 := index_gap b l h0 h
  unfold Lib.cut
  rw [h1, if_pos (by omega)]
  have e : (((join l).length : Int)).toNat = (join l).length := by simp
  rw [e, List.take_left, ← List.drop_drop, List.drop_left]
  rfl
end Rsp
end Go.Proofs.YtehgigfngelkjaaDoor
