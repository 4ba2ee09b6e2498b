/- How the reading of a URL, as the document says it, goes step by step; no program stands in it but the names of texts' values. No condition. -/
import Derived.Test.YtbpeohadgplaaaaDoorVi
import Derived.Test.YtbpeohadgplaaaaDoorRes
namespace Go.Proofs.YtbpeohadgplaaaaDoor
set_option maxRecDepth 8000
open Go.RowKit

theorem host_all (h : List UInt8) : (Url.small h).all Url.hostB = h.all hostA := by
  unfold Url.small
  rw [List.all_map]
  rfl
theorem parse_scheme {l : List UInt8} (hl : ¬ 2000 < l.length) (h : Url.schemeOf l = none) : Url.parse l = .error 12 := by
  unfold Url.parse
  rw [if_neg hl, h]
theorem parse_host {l sc r : List UInt8} (hl : ¬ 2000 < l.length) (h : Url.schemeOf l = some (sc, r)) (hh : hostOk (r.takeWhile Url.noDelim) = false) : Url.parse l = .error 13 := by
  unfold Url.parse
  rw [if_neg hl, h]
  simp only
  rw [if_pos]
  rw [host_all]
  unfold hostOk at hh
  generalize r.takeWhile Url.noDelim = x at hh ⊢
  by_cases h1 : x = []
  · exact .inl h1
  · by_cases h2 : x.length ≤ 64
    · right; right
      simpa [h1, h2] using hh
    · right; left
      omega
theorem parse_past {l sc r : List UInt8} (hl : ¬ 2000 < l.length) (h : Url.schemeOf l = some (sc, r)) (hh : hostOk (r.takeWhile Url.noDelim) = true) :
    Url.parse l = match Url.portPart sc (r.dropWhile Url.noDelim) with
      | none => .error 14
      | some (n, r2) => Url.tail3 sc (Url.small (r.takeWhile Url.noDelim)) n r2 := by
  have hn : ¬ (r.takeWhile Url.noDelim = [] ∨ 64 < (r.takeWhile Url.noDelim).length ∨ (Url.small (r.takeWhile Url.noDelim)).all Url.hostB = false) := by
    rw [host_all]
    unfold hostOk at hh
    generalize r.takeWhile Url.noDelim = x at hh ⊢
    rw [Bool.and_eq_true, Bool.and_eq_true, decide_eq_true_eq, decide_eq_true_eq] at hh
    rintro (h1 | h1 | h1)
    · exact hh.1.1 h1
    · omega
    · rw [hh.2] at h1; cases h1
  unfold Url.parse
  rw [if_neg hl, h]
  simp only
  rw [if_neg hn]
  cases Url.portPart sc (r.dropWhile Url.noDelim) with
  | none => rfl
  | some x => rfl
theorem dfl_zero (sc : List UInt8) : Url.dfl sc 0 = 0 := by unfold Url.dfl; split <;> rfl
theorem port_same (sc r : List UInt8) : Url.portPart sc r = (portPart r).map fun x => (Url.dfl sc x.1, x.2) := by
  unfold Url.portPart portPart
  cases r with
  | nil => simp [dfl_zero]
  | cons c t =>
    simp only
    by_cases hc : c = 58
    · rw [if_pos hc, if_pos hc]
      cases Url.portOf (t.takeWhile Url.noEnd) <;> rfl
    · rw [if_neg hc, if_neg hc]
      simp [dfl_zero]
theorem parse_port {l sc r : List UInt8} (hl : ¬ 2000 < l.length) (h : Url.schemeOf l = some (sc, r)) (hh : hostOk (r.takeWhile Url.noDelim) = true) (hp : portPart (r.dropWhile Url.noDelim) = none) : Url.parse l = .error 14 := by
  rw [parse_past hl h hh, port_same, hp]
  rfl
theorem parse_tail {l sc r r2 : List UInt8} {n : Nat} (hl : ¬ 2000 < l.length) (h : Url.schemeOf l = some (sc, r)) (hh : hostOk (r.takeWhile Url.noDelim) = true) (hp : portPart (r.dropWhile Url.noDelim) = some (n, r2)) :
    Url.parse l = Url.tail3 sc (Url.small (r.takeWhile Url.noDelim)) (Url.dfl sc n) r2 := by
  rw [parse_past hl h hh, port_same, hp]
  rfl
theorem dfl_own {sc : List UInt8} (h : sc = Url.http ∨ sc = Url.https) (n : Nat) : Url.dfl sc n = if (n : Int) = ownP sc then 0 else n := by
  rcases h with rfl | rfl
  · have e : ownP Url.http = 80 := by decide
    rw [e]
    unfold Url.dfl
    by_cases hn : n = 80
    · subst hn; rfl
    · rw [if_neg (by
        rintro (⟨_, h⟩ | ⟨h, _⟩)
        · exact hn h
        · exact absurd h (by decide)), if_neg (by omega)]
  · have e : ownP Url.https = 443 := by decide
    rw [e]
    unfold Url.dfl
    by_cases hn : n = 443
    · subst hn; rfl
    · rw [if_neg (by
        rintro (⟨h, _⟩ | ⟨_, h⟩)
        · exact absurd h (by decide)
        · exact hn h), if_neg (by omega)]
theorem scheme_is {l sc r : List UInt8} (h : Url.schemeOf l = some (sc, r)) : (sc = Url.http ∨ sc = Url.https) ∧ r.length ≤ l.length := by
  unfold Url.schemeOf at h
  split at h
  · cases h; exact ⟨.inl rfl, by simp⟩
  · split at h
    · cases h; exact ⟨.inr rfl, by simp⟩
    · cases h
theorem port_len {r r2 : List UInt8} {n : Nat} (h : portPart r = some (n, r2)) : r2.length ≤ r.length ∧ n ≤ 65535 := by
  unfold portPart at h
  cases r with
  | nil => cases h; simp
  | cons c t =>
    simp only at h
    by_cases hc : c = 58
    · rw [if_pos hc] at h
      cases hp : Url.portOf (t.takeWhile Url.noEnd) with
      | none => rw [hp] at h; cases h
      | some m =>
        rw [hp] at h
        have e : (m, t.dropWhile Url.noEnd) = (n, r2) := Option.some.inj h
        cases e
        have := Url.dropWhile_len Url.noEnd t
        refine ⟨by simp; omega, ?_⟩
        unfold Url.portOf at hp
        split at hp
        · rename_i hx
          cases hp
          exact hx.2.2
        · cases hp
    · rw [if_neg hc] at h
      cases h
      simp

/-- Cut at the first ?. -/
theorem q_cut : ∀ l : List UInt8, l.takeWhile Url.notQ = (Pct.cutAt 63 l).1 ∧ l.dropWhile Url.notQ = (if (Pct.cutAt 63 l).2.2 = true then 63 :: (Pct.cutAt 63 l).2.1 else []) ∧ ((Pct.cutAt 63 l).2.2 = false → (Pct.cutAt 63 l).2.1 = [])
  | [] => ⟨rfl, rfl, fun _ => rfl⟩
  | c :: l => by
    by_cases hc : c = 63
    · subst hc
      rw [Pct.cutAt_hit]
      refine ⟨rfl, rfl, fun h => by cases h⟩
    · have hq : Url.notQ c = true := by unfold Url.notQ; simp [hc]
      obtain ⟨h1, h2, h3⟩ := q_cut l
      rw [Pct.cutAt_other 63 c l hc, List.takeWhile_cons_of_pos hq, List.dropWhile_cons_of_pos hq]
      exact ⟨by rw [h1], h2, h3⟩
theorem tail_path {sc h r pa qu : List UInt8} {n : Nat} {f : Bool} (hc : Pct.cutAt 63 r = (pa, qu, f)) (hp : Url.part pa = none) : Url.tail3 sc h n r = .error 15 := by
  obtain ⟨h1, _, _⟩ := q_cut r
  unfold Url.tail3
  rw [h1, hc, hp]
theorem tail_query {sc h r pa qu p : List UInt8} {n : Nat} {f : Bool} (hc : Pct.cutAt 63 r = (pa, qu, f)) (hp : Url.part pa = some p) (hq : Url.part qu = none) : Url.tail3 sc h n r = .error 15 := by
  obtain ⟨h1, h2, h3⟩ := q_cut r
  rw [hc] at h1 h2 h3
  simp only at h1 h2 h3
  have hf : f = true := by
    cases f with
    | true => rfl
    | false => rw [h3 rfl] at hq; exact absurd hq (by decide)
  unfold Url.tail3
  rw [h1, h2, hp, if_pos hf]
  simp only
  rw [hq]
theorem tail_ok {sc h r pa qu p q : List UInt8} {n : Nat} {f : Bool} (hc : Pct.cutAt 63 r = (pa, qu, f)) (hp : Url.part pa = some p) (hq : Url.part qu = some q) : Url.tail3 sc h n r = .ok ⟨sc, h, n, Url.pathOf p, q, f⟩ := by
  obtain ⟨h1, h2, h3⟩ := q_cut r
  rw [hc] at h1 h2 h3
  simp only at h1 h2 h3
  unfold Url.tail3
  rw [h1, h2, hp]
  cases f with
  | true => simp only [if_true]; rw [hq]
  | false =>
    rw [h3 rfl] at hq
    have : q = [] := by
      have e : Url.part [] = some [] := by decide
      rw [e] at hq
      exact (Option.some.inj hq).symm
    subst this
    rfl
theorem path_slash (p : List UInt8) : Url.pathOf p = Url.dots (if p = [] then [47] else p) := by
  unfold Url.pathOf
  by_cases h : p = []
  · rw [if_pos h, if_pos h]; decide
  · rw [if_neg h, if_neg h]
theorem part_len {l p : List UInt8} (h : Url.part l = some p) : p.length ≤ l.length := by
  unfold Url.part at h
  split at h
  · exact Pct.norm_len h
  · cases h
end Go.Proofs.YtbpeohadgplaaaaDoor
