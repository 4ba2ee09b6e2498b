/- Where the loops of the document's Read end, and which way it goes, in plain lists. No condition. -/
import Derived.Test.YtpdilhnbbokipaaDoorCy
import Derived.Test.YtpdilhnbbokipaaDoorCz
import Derived.Test.YtpdilhnbbokipaaDoorCf
import Derived.Test.YtpdilhnbbokipaaDoorCw
namespace Go.Proofs.YtpdilhnbbokipaaDoor
set_option maxRecDepth 8000
open Go.RowKit

namespace Ck
theorem tw_off {s : Bytes} {o qq : Nat} (h1 : o ≤ qq) (h2 : qq ≤ s.length) (h : ∀ m (hm : m < s.length), o ≤ m → m < qq → s[m] ≠ 59) (hend : qq = s.length ∨ ∃ ht : qq < s.length, s[qq] = 59) :
    tw (s.drop o) = (s.drop o).take (qq - o) ∧ dw (s.drop o) = s.drop qq := by
  have e : s.drop o = (s.drop o).take (qq - o) ++ s.drop qq := by
    have h3 := (List.take_append_drop (qq - o) (s.drop o)).symm
    rw [List.drop_drop, show o + (qq - o) = qq by omega] at h3
    exact h3
  have ha : ∀ x ∈ (s.drop o).take (qq - o), x ≠ 59 := by
    intro x hx
    obtain ⟨i, hi, rfl⟩ := List.getElem_of_mem hx
    rw [List.length_take, List.length_drop] at hi
    rw [List.getElem_take, List.getElem_drop]
    exact h (o + i) (by omega) (by omega) (by omega)
  have hm : Mk (s.drop qq) := by
    rcases hend with h4 | ⟨ht, h4⟩
    · exact .inl (List.drop_eq_nil_iff.2 (by omega))
    · refine .inr ⟨s.drop (qq + 1), ?_⟩
      rw [List.drop_eq_getElem_cons ht, h4]
  have := tw_mk ha hm
  rw [← e] at this
  exact this
theorem refRead_no1 {s a b : Bytes} (h : Pct.cutAt 61 s = (a, b, false)) : refRead s = none := by
  unfold refRead
  rw [h, if_neg (by simp)]
theorem refRead_no2 {s a b : Bytes} {f : Bool} (h : Pct.cutAt 61 s = (a, b, f)) (hp : pathM.isPrefixOf (dw b) = false) : refRead s = none := by
  unfold refRead
  rw [h, if_neg (fun h' => by have := h'.2; simp only at this; rw [hp] at this; cases this)]
theorem refRead_mid {s a b : Bytes} (h : Pct.cutAt 61 s = (a, b, true)) (hp : pathM.isPrefixOf (dw b) = true) : refRead s = refMid a (tw b) ((dw b).drop 7) := by
  unfold refRead
  rw [h, if_pos ⟨rfl, hp⟩]
theorem refMid_age {n v r2 : Bytes} (hp : ageM.isPrefixOf (dw r2) = true) : refMid n v r2 = if numberI (tw ((dw r2).drop 10)) < 0 then none else refTail n v (tw r2) (numberI (tw ((dw r2).drop 10))) (dw ((dw r2).drop 10)) := by
  unfold refMid
  rw [if_pos hp]
theorem refMid_no {n v r2 : Bytes} (hp : ageM.isPrefixOf (dw r2) = false) : refMid n v r2 = refTail n v (tw r2) (-1) (dw r2) := by
  unfold refMid
  rw [if_neg (by rw [hp]; simp)]
/-- The way behind the age: with x what is left behind Secure. -/
theorem refTail_http {n v p r : Bytes} {a : Int} {b : Bool} (hs : secM.isPrefixOf r = b) (hx : secRest r = httpM) : refTail n v p a r = if right ⟨n, v, p, a, b, true⟩ = true then some ⟨n, v, p, a, b, true⟩ else none := by
  unfold refTail
  rw [hx, hs]
  by_cases hr : right ⟨n, v, p, a, b, true⟩ = true
  · rw [if_pos ⟨.inl rfl, by simpa using hr⟩, if_pos hr]
    simp
  · rw [if_neg (fun h => hr (by simpa using h.2)), if_neg hr]
theorem refTail_none {n v p r : Bytes} {a : Int} {b : Bool} (hs : secM.isPrefixOf r = b) (hx : secRest r = []) : refTail n v p a r = if right ⟨n, v, p, a, b, false⟩ = true then some ⟨n, v, p, a, b, false⟩ else none := by
  unfold refTail
  rw [hx, hs]
  by_cases hr : right ⟨n, v, p, a, b, false⟩ = true
  · rw [if_pos ⟨.inr rfl, hr⟩, if_pos hr]
    rfl
  · rw [if_neg (fun h => hr h.2), if_neg hr]
theorem refTail_more {n v p r : Bytes} {a : Int} (h1 : secRest r ≠ httpM) (h2 : secRest r ≠ []) : refTail n v p a r = none := by
  unfold refTail
  rw [if_neg (fun h => by rcases h.1 with h | h; exact h1 h; exact h2 h)]
def last (n v p : Bytes) (a : Int) (b h : Bool) (x : Bytes) : Option C := if x = [] ∧ right ⟨n, v, p, a, b, h⟩ = true then some ⟨n, v, p, a, b, h⟩ else none
theorem refTail_last {n v p r : Bytes} {a : Int} {b : Bool} (hs : secM.isPrefixOf r = b) : refTail n v p a r = if secRest r = httpM then last n v p a b true [] else last n v p a b false (secRest r) := by
  by_cases h1 : secRest r = httpM
  · rw [if_pos h1, refTail_http hs h1]
    unfold last
    by_cases hr : right ⟨n, v, p, a, b, true⟩ = true
    · rw [if_pos hr, if_pos ⟨rfl, hr⟩]
    · rw [if_neg hr, if_neg (fun h => hr h.2)]
  · rw [if_neg h1]
    unfold last
    by_cases h2 : secRest r = []
    · rw [refTail_none hs h2]
      by_cases hr : right ⟨n, v, p, a, b, false⟩ = true
      · rw [if_pos hr, if_pos ⟨h2, hr⟩]
      · rw [if_neg hr, if_neg (fun h => hr h.2)]
    · rw [refTail_more h1 h2, if_neg (fun h => h2 h.1)]
theorem secRest_yes {r : Bytes} (h : secM.isPrefixOf r = true) : secRest r = r.drop 8 := by unfold secRest; rw [if_pos h]
theorem secRest_no {r : Bytes} (h : secM.isPrefixOf r = false) : secRest r = r := by unfold secRest; rw [if_neg (by rw [h]; simp)]
end Ck

/-- What stands at the beginning of a text, or does not. -/
theorem mark_at (p l : List UInt8) (n : Nat) (hn : p.length = n) : (p.isPrefixOf l = false ∧ (S l).size < n) ∨ (n ≤ (S l).size ∧ p.isPrefixOf l = (l.take n == p)) := by
  by_cases h : l.length < n
  · exact .inl ⟨prefix_short (by omega), h⟩
  · exact .inr ⟨by show n ≤ l.length; omega, by rw [prefix_take, hn]⟩
end Go.Proofs.YtpdilhnbbokipaaDoor
