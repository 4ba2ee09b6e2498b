/- Plain functions for cookies that are set and kept (which can be, how one is set, jars) and what follows of them; no program stands in it. No condition. -/
import Derived.Test.YtehgigfngelkjaaDoorCkPure
import Derived.Lib.ItoaNum
namespace Go.Proofs.YtehgigfngelkjaaDoor
set_option maxRecDepth 8000
namespace Ck
open Pct (PairL cutAt split)

structure C where
  name : Bytes
  val : Bytes
  path : Bytes
  age : Int
  sec : Bool
  http : Bool
instance : DecidableEq C := fun u v =>
  decidable_of_iff (u.name = v.name ∧ u.val = v.val ∧ u.path = v.path ∧ u.age = v.age ∧ u.sec = v.sec ∧ u.http = v.http) (by
    obtain ⟨a, b, c, d, e, f⟩ := u
    obtain ⟨a', b', c', d', e', f'⟩ := v
    simp)

def right (c : C) : Bool := decide (-1 ≤ c.age) && (decide (c.age ≤ 99999999) && (token c.name && (value c.val && ((c.path.head? == some 47) && value c.path))))

def pathM : Bytes := [59, 32, 80, 97, 116, 104, 61]
def ageM : Bytes := [59, 32, 77, 97, 120, 45, 65, 103, 101, 61]
def secM : Bytes := [59, 32, 83, 101, 99, 117, 114, 101]
def httpM : Bytes := [59, 32, 72, 116, 116, 112, 79, 110, 108, 121]
def ageT (n : Int) : Bytes := if n = -1 then [] else ageM ++ Lib.decDigits n.toNat
def secT (b : Bool) : Bytes := if b = true then secM else []
def httpT (b : Bool) : Bytes := if b = true then httpM else []
def set (c : C) : Bytes := c.name ++ [61] ++ c.val ++ pathM ++ c.path ++ ageT c.age ++ secT c.sec ++ httpT c.http

/-- Is it another cookie's name and path? -/
def same (c old : C) : Bool := (old.name == c.name) && (old.path == c.path)
def rest (l : List C) (c : C) : List C := l.filter fun old => !same c old
def putE (l : List C) (c : C) : Nat := if right c = true then (if c.age = 0 then 0 else if (rest l c).length = 20 then 5 else 0) else 1
def put (l : List C) (c : C) : List C := if right c = true then (if c.age = 0 then rest l c else if (rest l c).length = 20 then l else rest l c ++ [c]) else l

def under (path top : Bytes) : Bool := top.isPrefixOf path && ((path.drop top.length).isEmpty || (top.getLast? == some 47) || ((path.drop top.length).head? == some 47))
def sends (path : Bytes) (secure : Bool) (c : C) : Bool := under path c.path && (secure || !c.sec)
def pairs (l : List C) (path : Bytes) (secure : Bool) : List PairL := (l.filter (sends path secure)).map fun c => (c.name, c.val)

theorem rest_len (l : List C) (c : C) : (rest l c).length ≤ l.length := List.length_filter_le _ _
theorem put_len {l : List C} (h : l.length ≤ 20) (c : C) : (put l c).length ≤ 20 := by
  unfold put
  have := rest_len l c
  split
  · split
    · omega
    · split
      · exact h
      · simp; omega
  · exact h
theorem pairs_len (l : List C) (path : Bytes) (secure : Bool) : (pairs l path secure).length ≤ l.length := by
  unfold pairs
  rw [List.length_map]
  exact List.length_filter_le _ _
end Ck
end Go.Proofs.YtehgigfngelkjaaDoor
