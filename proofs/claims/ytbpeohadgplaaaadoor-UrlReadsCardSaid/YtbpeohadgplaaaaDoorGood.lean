/- What is read of a text is a URL that can be; its texts are not longer than the text was. No condition. -/
import Derived.Test.YtbpeohadgplaaaaDoorVj
namespace Go.Proofs.YtbpeohadgplaaaaDoor
set_option maxRecDepth 8000

theorem fold_len : ∀ (segs acc : List (List UInt8)), (Url.joinS (segs.foldl Url.keep1 acc)).length ≤ (Url.joinS acc).length + (Url.joinS segs).length
  | [], acc => by simp
  | s :: segs, acc => by
    rw [List.foldl_cons]
    have ih := fold_len segs (Url.keep1 acc s)
    have hk : (Url.joinS (Url.keep1 acc s)).length ≤ (Url.joinS acc).length + 1 + s.length := by
      unfold Url.keep1
      split
      · omega
      · split
        · have := join_len acc
          omega
        · rw [join_snoc]
          simp
          omega
    rw [Url.joinS_cons]
    simp
    omega
theorem dots_len (t : List UInt8) : (Url.dots (47 :: t)).length ≤ t.length + 2 := by
  have hd : Url.dots (47 :: t) = Url.joinS (Url.keptOf (Pct.split 47 t)) ++ Url.tailOf (Pct.split 47 t) (Url.keptOf (Pct.split 47 t)) := by simp [Url.dots]
  have h1 := fold_len (Pct.split 47 t) []
  have h2 : (Url.joinS (Pct.split 47 t)).length = t.length + 1 := by rw [Url.join_split t t.length (Nat.le_refl _)]; simp
  have h3 : (Url.tailOf (Pct.split 47 t) (Url.keptOf (Pct.split 47 t))).length ≤ 1 := by unfold Url.tailOf; split <;> simp
  have h4 : (Url.joinS ([] : List (List UInt8))).length = 0 := rfl
  rw [hd, List.length_append]
  unfold Url.keptOf at h3 ⊢
  omega

/-- All that is read of a text. -/
structure Parsed (l : List UInt8) (u : Url.U) : Prop where
  good : Url.Good u
  few : Few u
  path : u.path.length ≤ l.length + 2
  query : u.query.length ≤ l.length
  scheme : u.scheme.length ≤ 5
  long : l.length ≤ 2000

theorem part_good' {l p : List UInt8} (h : Url.part l = some p) : l.all Url.okB2 = true ∧ Pct.norm l = some p := by
  unfold Url.part at h
  split at h
  · rename_i ha
    exact ⟨ha, h⟩
  · cases h
theorem part_ok {l p : List UInt8} (h : Url.part l = some p) : p.all Url.okB2 = true ∧ Url.Nrm p := by
  obtain ⟨h1, h2⟩ := part_good' h
  exact ⟨Url.norm_all Url.okB2 Url.plain_ok (by decide) h1 h2, Pct.norm_norm h2⟩
theorem plain_q (c : UInt8) : Pct.plainB c = true → Url.notQ c = true := by
  have := Url.byte_all (P := fun c => !Pct.plainB c || Url.notQ c) (by decide +kernel) c
  intro h
  rw [h] at this
  simpa using this

theorem three_of {c : UInt8} (h : ¬ c = 47 → ¬ c = 63 → c = 35) : c = 47 ∨ c = 63 ∨ c = 35 := by
  by_cases h1 : c = 47
  · exact .inl h1
  · by_cases h2 : c = 63
    · exact .inr (.inl h2)
    · exact .inr (.inr (h h1 h2))

/-- What the text behind host and port begins with. -/
def Begins (r : List UInt8) : Prop := ∀ c t, r = c :: t → c = 47 ∨ c = 63 ∨ c = 35
theorem begins_of {r r2 : List UInt8} {n : Nat} (h : portPart (r.dropWhile Url.noDelim) = some (n, r2)) : Begins r2 := by
  intro c t hr
  subst hr
  cases hd : r.dropWhile Url.noDelim with
  | nil => rw [hd] at h; cases h
  | cons d s =>
    have hnd := Url.dropWhile_head Url.noDelim r d s hd
    rw [hd] at h
    unfold portPart at h
    simp only at h
    by_cases h58 : d = 58
    · rw [if_pos h58] at h
      cases hp : Url.portOf (s.takeWhile Url.noEnd) with
      | none => rw [hp] at h; cases h
      | some m =>
        rw [hp] at h
        have e : (m, s.dropWhile Url.noEnd) = (n, c :: t) := Option.some.inj h
        have e2 : s.dropWhile Url.noEnd = c :: t := (Prod.mk.inj e).2
        have := Url.dropWhile_head Url.noEnd s c t e2
        unfold Url.noEnd at this
        exact three_of (by simpa using this)
    · rw [if_neg h58] at h
      have e : (0, d :: s) = (n, c :: t) := Option.some.inj h
      have e2 : d :: s = c :: t := (Prod.mk.inj e).2
      cases e2
      unfold Url.noDelim at hnd
      exact three_of (by simpa [h58] using hnd)
theorem path_begins {r pa qu p : List UInt8} {f : Bool} (hb : Begins r) (hc : Pct.cutAt 63 r = (pa, qu, f)) (hp : Url.part pa = some p) : p = [] ∨ ∃ t, p = 47 :: t := by
  obtain ⟨h1, _, _⟩ := q_cut r
  rw [hc] at h1
  simp only at h1
  cases r with
  | nil =>
    have : pa = [] := by rw [← h1]; rfl
    subst this
    left
    have e : Url.part [] = some [] := by decide
    rw [e] at hp
    exact (Option.some.inj hp).symm
  | cons c t =>
    rcases hb c t rfl with rfl | rfl | rfl
    · right
      have e : pa = 47 :: t.takeWhile Url.notQ := by rw [← h1]; rfl
      obtain ⟨_, h2⟩ := part_good' hp
      rw [e, Url.norm_cons 47 (by decide), Option.map_eq_some_iff] at h2
      obtain ⟨x, _, rfl⟩ := h2
      exact ⟨x, rfl⟩
    · left
      have : pa = [] := by rw [← h1]; rfl
      subst this
      have e : Url.part [] = some [] := by decide
      rw [e] at hp
      exact (Option.some.inj hp).symm
    · have e : pa = 35 :: t.takeWhile Url.notQ := by rw [← h1]; rfl
      obtain ⟨h2, _⟩ := part_good' hp
      rw [e, List.all_cons] at h2
      have : Url.okB2 35 = false := by decide
      rw [this] at h2
      cases h2
theorem dfl_dfl {sc : List UInt8} (n : Nat) (h : Url.dfl sc n ≠ 0) : Url.dfl sc (Url.dfl sc n) = Url.dfl sc n := by
  by_cases hc : sc = Url.http ∧ n = 80 ∨ sc = Url.https ∧ n = 443
  · exact absurd (by unfold Url.dfl; rw [if_pos hc]) h
  · have e : Url.dfl sc n = n := by unfold Url.dfl; rw [if_neg hc]
    rw [e, e]
theorem dfl_le (sc : List UInt8) (n : Nat) : Url.dfl sc n ≤ n := by unfold Url.dfl; split <;> omega
theorem hostOk_parts {h : List UInt8} (hh : hostOk h = true) : h ≠ [] ∧ h.length ≤ 64 ∧ h.all hostA = true := by
  unfold hostOk at hh
  rw [Bool.and_eq_true, Bool.and_eq_true, decide_eq_true_eq, decide_eq_true_eq] at hh
  exact ⟨hh.1.1, hh.1.2, hh.2⟩

theorem parse_good {l : List UInt8} {u : Url.U} (h : Url.parse l = .ok u) : Parsed l u := by
  by_cases hl : 2000 < l.length
  · unfold Url.parse at h
    rw [if_pos hl] at h
    cases h
  · cases hsc : Url.schemeOf l with
    | none => rw [parse_scheme hl hsc] at h; cases h
    | some x =>
      obtain ⟨sc, r⟩ := x
      obtain ⟨hs1, hs2⟩ := scheme_is hsc
      cases hh : hostOk (r.takeWhile Url.noDelim) with
      | false => rw [parse_host hl hsc hh] at h; cases h
      | true =>
        cases hp : portPart (r.dropWhile Url.noDelim) with
        | none => rw [parse_port hl hsc hh hp] at h; cases h
        | some x =>
          obtain ⟨n, r2⟩ := x
          rw [parse_tail hl hsc hh hp] at h
          obtain ⟨pl1, pl2⟩ := port_len hp
          have hdw := Url.dropWhile_len Url.noDelim r
          obtain ⟨x, hc⟩ : ∃ x, Pct.cutAt 63 r2 = x := ⟨_, rfl⟩
          obtain ⟨pa, qu, f⟩ := x
          have hcl := cut_len 63 r2
          rw [hc] at hcl
          simp only at hcl
          cases hpa : Url.part pa with
          | none => rw [tail_path hc hpa] at h; cases h
          | some p =>
            cases hqu : Url.part qu with
            | none => rw [tail_query hc hpa hqu] at h; cases h
            | some q =>
              rw [tail_ok hc hpa hqu] at h
              cases h
              have lp := part_len hpa
              have lq := part_len hqu
              obtain ⟨p1, p2⟩ := part_ok hpa
              obtain ⟨q1, q2⟩ := part_ok hqu
              obtain ⟨ho1, ho2, ho3⟩ := hostOk_parts hh
              have hsl : (Url.small (r.takeWhile Url.noDelim)).length = (r.takeWhile Url.noDelim).length := small_len _
              have hscl : sc.length ≤ 5 := by rcases hs1 with rfl | rfl <;> decide
              have hdl := dfl_le sc n
              have pQ : p.all Url.notQ = true := by
                obtain ⟨_, hn⟩ := part_good' hpa
                refine Url.norm_all Url.notQ plain_q (by decide) ?_ hn
                obtain ⟨e1, _, _⟩ := q_cut r2
                rw [hc] at e1
                simp only at e1
                rw [← e1]
                exact Url.takeWhile_all _ _
              have hpath : Url.Clean (Url.pathOf p) ∧ (Url.pathOf p).all Url.okB2 = true ∧ (Url.pathOf p).all Url.notQ = true ∧ Url.Nrm (Url.pathOf p) ∧ (Url.pathOf p).length ≤ l.length + 2 := by
                rcases path_begins (begins_of hp) hc hpa with rfl | ⟨t, rfl⟩
                · refine ⟨⟨[], rfl, by decide⟩, by decide, by decide, by unfold Url.Nrm; decide, ?_⟩
                  show 1 ≤ _
                  omega
                · have e : Url.pathOf (47 :: t) = Url.dots (47 :: t) := rfl
                  rw [e]
                  rw [List.all_cons, Bool.and_eq_true] at p1 pQ
                  refine ⟨Url.dots_clean t, Url.dots_all _ (by decide) t p1.2, Url.dots_all _ (by decide) t pQ.2, Url.dots_nrm t p2, ?_⟩
                  have := dots_len t
                  simp at lp
                  omega
              obtain ⟨a1, a2, a3, a4, a5⟩ := hpath
              refine ⟨⟨hs1, ?_, by show (Url.small _).length ≤ 64; omega, by show (Url.small _).all _ = true; rw [host_all]; exact ho3, ⟨by show Url.dfl sc n ≤ 65535; omega, fun hne => dfl_dfl n hne⟩, a1, a2, a3, a4, q1, q2, ?_⟩, ⟨by show sc.length ≤ _; omega, by show (Url.small _).length ≤ _; omega, by show Url.dfl sc n ≤ _; omega, by show (Url.pathOf p).length ≤ _; omega, by show q.length ≤ _; omega⟩, a5, by show q.length ≤ _; omega, hscl, by omega⟩
              · intro e
                have e' : Url.small (r.takeWhile Url.noDelim) = [] := e
                rw [e'] at hsl
                exact ho1 (List.length_eq_zero_iff.1 hsl.symm)
              · intro hf
                have hf' : f = false := hf
                obtain ⟨_, _, e3⟩ := q_cut r2
                rw [hc] at e3
                have := e3 hf'
                simp only at this
                subst this
                have e : Url.part [] = some [] := by decide
                rw [e] at hqu
                exact (Option.some.inj hqu).symm
end Go.Proofs.YtbpeohadgplaaaaDoor
