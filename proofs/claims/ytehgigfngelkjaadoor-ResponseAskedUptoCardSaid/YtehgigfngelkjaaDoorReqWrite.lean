/- The plain functions of requests that are written: their texts, how long they are at least, and whether they can be. -/
import Derived.Test.YtehgigfngelkjaaDoorReqPure
namespace Go.Proofs.YtehgigfngelkjaaDoor
namespace Req
open Pct (Bytes PairL)

def hline (gap : Bytes) (q : PairL) : Bytes := q.1 ++ [58] ++ gap ++ q.2 ++ [13, 10]
def headText (gap : Bytes) (hs : List PairL) : Bytes := hs.flatMap (hline gap)
def top (m t : Bytes) : Bytes := m ++ [32] ++ t ++ [32] ++ version ++ [13, 10]
def text (gap : Bytes) (r : R) : Bytes := top r.method r.target ++ headText gap r.heads ++ ([13, 10] ++ r.body)
def sumH : List PairL → Nat
  | [] => 0
  | q :: l => q.1.length + q.2.length + 3 + sumH l
def fewest (r : R) : Nat := r.method.length + r.target.length + 14 + r.body.length + sumH r.heads
def headOk (q : PairL) : Bool := token q.1 && isText q.2
def right (r : R) : Bool := decide (r.heads.length ≤ 32) && decide (fewest r ≤ 4096) && known r.method && isTarget r.target && r.heads.all headOk && (bodyLen r.heads == some r.body.length)
def write (r : R) : Except Nat Bytes := if right r then (if 4096 < fewest r + r.heads.length then .error 2 else .ok (text [32] r)) else .error 1

theorem headText_len (gap : Bytes) : ∀ l : List PairL, (headText gap l).length = sumH l + gap.length * l.length
  | [] => by simp [headText, sumH]
  | q :: l => by
    have ih := headText_len gap l
    unfold headText at ih ⊢
    rw [List.flatMap_cons, List.length_append, ih]
    simp only [hline, sumH, List.length_append, List.length_cons, List.length_nil, Nat.mul_add]
    omega
theorem text_len (gap : Bytes) (r : R) : (text gap r).length = fewest r + gap.length * r.heads.length := by
  unfold text top fewest
  simp only [List.length_append, headText_len, List.length_cons, List.length_nil, version]
  omega
theorem sumH_snoc (q : PairL) : ∀ l : List PairL, sumH (l ++ [q]) = sumH l + (q.1.length + q.2.length + 3)
  | [] => by simp [sumH]
  | x :: l => by
    have ih := sumH_snoc q l
    rw [List.cons_append, sumH, sumH, ih]
    omega
theorem headText_snoc (gap : Bytes) (l : List PairL) (q : PairL) : headText gap (l ++ [q]) = headText gap l ++ hline gap q := by simp [headText]
end Req
end Go.Proofs.YtehgigfngelkjaaDoor
