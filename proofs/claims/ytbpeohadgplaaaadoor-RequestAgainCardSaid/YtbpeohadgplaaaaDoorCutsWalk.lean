/- What the statement RequestCuts answers: true, for any bytes, where the variables that it reaches read as their texts lay them. -/
import Derived.Test.YtbpeohadgplaaaaDoorRh
import Derived.Test.YtbpeohadgplaaaaDoorRefB
namespace Go.Proofs.YtbpeohadgplaaaaDoor
set_option maxRecDepth 8000
open Go.RowKit

theorem heads_take : ∀ (k : Nat) (r : List UInt8) (hs : List Pct.PairL) (b : List UInt8) (j : Nat), Req.heads k r = .ok (hs, b) → j < r.length → Req.heads k (r.take j) = .error 3 ∨ ∃ i, i < b.length ∧ Req.heads k (r.take j) = .ok (hs, b.take i)
  | k, r, hs, b, j, h, hj => by
    rw [Req.heads] at h
    split at h
    · cases h
    · rename_i a r' hl
      have hlen := Req.line_len hl
      by_cases hs1 : j < a.length + 2
      · refine .inl ?_
        rw [Req.heads, Req.line_short j hl hs1]
      · have ht := Req.line_take j hl (by omega)
        split at h
        · rename_i ha
          cases h
          refine .inr ⟨j - (a.length + 2), by omega, ?_⟩
          rw [Req.heads, ht]
          simp only [ha, if_true]
        · rename_i ha
          split at h
          · cases h
          · split at h
            · cases h
            · rename_i k _ q hq
              cases hh : Req.heads k r' with
              | error e => rw [hh] at h; cases h
              | ok p =>
                rw [hh] at h
                obtain ⟨hs', b'⟩ := p
                cases h
                rcases heads_take k r' hs' b' (j - (a.length + 2)) hh (by omega) with ih | ⟨i, hi, ih⟩
                · refine .inl ?_
                  rw [Req.heads, ht]
                  simp only [ha, if_false, hq, ih]
                  rfl
                · refine .inr ⟨i, hi, ?_⟩
                  rw [Req.heads, ht]
                  simp only [ha, if_false, hq, ih]
                  rfl
theorem heads_app (m : List UInt8) : ∀ (k : Nat) (r : List UInt8) (hs : List Pct.PairL) (b : List UInt8), Req.heads k r = .ok (hs, b) → Req.heads k (r ++ m) = .ok (hs, b ++ m)
  | k, r, hs, b, h => by
    rw [Req.heads] at h
    split at h
    · cases h
    · rename_i a r' hl
      have ht := Req.line_app m hl
      split at h
      · rename_i ha
        cases h
        rw [Req.heads, ht]
        simp only [ha, if_true]
      · rename_i ha
        split at h
        · cases h
        · split at h
          · cases h
          · rename_i k _ q hq
            cases hh : Req.heads k r' with
            | error e => rw [hh] at h; cases h
            | ok p =>
              rw [hh] at h
              obtain ⟨hs', b'⟩ := p
              cases h
              have ih := heads_app m k r' hs' b' hh
              rw [Req.heads, ht]
              simp only [ha, if_false, hq, ih]
              rfl
/-- What a text that is read has. -/
theorem parse_parts {s : List UInt8} {q : Req.R} (h : Req.parse s = .ok q) : ¬ 4096 < s.length ∧ ∃ a r, Req.line s = some (a, r) ∧ Req.first a = .ok (q.method, q.target) ∧ Req.heads 32 r = .ok (q.heads, q.body) ∧ Req.bodyLen q.heads = some q.body.length := by
  unfold Req.parse at h
  split at h
  · cases h
  · rename_i hl
    refine ⟨hl, ?_⟩
    split at h
    · cases h
    · rename_i a r hline
      split at h
      · cases h
      · rename_i m t hf
        split at h
        · cases h
        · rename_i hs b hh
          split at h
          · cases h
          · rename_i n hb
            split at h
            · cases h
            · split at h
              · cases h
              · rename_i h1 h2
                cases h
                refine ⟨a, r, hline, hf, hh, ?_⟩
                obtain rfl : n = b.length := by omega
                exact hb
theorem parse_err_ne {s : List UInt8} {n : Nat} (h : Req.parse s = .error n) : n ≠ 0 := by
  unfold Req.parse at h
  split at h
  · cases h; decide
  · split at h
    · cases h; decide
    · split at h
      · rename_i e hf
        cases h
        exact first_err hf
      · split at h
        · rename_i e hh
          cases h
          exact heads_err _ _ _ hh
        · split at h
          · cases h; decide
          · split at h
            · cases h; decide
            · split at h
              · cases h; decide
              · cases h
theorem parse_take {s : List UInt8} {q : Req.R} (h : Req.parse s = .ok q) (k : Nat) (hk : k < s.length) : Req.parse (s.take k) = .error 3 := by
  obtain ⟨h0, a, r, h1, h2, h3, h4⟩ := parse_parts h
  have hlen : ¬ 4096 < (s.take k).length := by rw [List.length_take]; omega
  have hll := Req.line_len h1
  by_cases hs1 : k < a.length + 2
  · exact parse_2 hlen (Req.line_short k h1 hs1)
  · have ht := Req.line_take k h1 (by omega)
    rcases heads_take 32 r q.heads q.body (k - (a.length + 2)) h3 (by omega) with h5 | ⟨i, hi, h5⟩
    · exact parse_4 hlen ht h2 h5
    · rw [parse_6 hlen ht h2 h5 h4, if_pos (by rw [List.length_take]; omega)]
theorem parse_more {s : List UInt8} {q : Req.R} (h : Req.parse s = .ok q) (m : List UInt8) (hm : m ≠ []) (hl : s.length + m.length ≤ 4096) : Req.parse (s ++ m) = .error 9 := by
  obtain ⟨h0, a, r, h1, h2, h3, h4⟩ := parse_parts h
  have hm0 : 0 < m.length := List.length_pos_iff.2 hm
  rw [parse_6 (by simp; omega) (Req.line_app m h1) h2 (heads_app m 32 r _ _ h3) h4, if_neg (by simp), if_pos (by simp; omega)]

theorem extract_take (l : List UInt8) (k : Nat) : (S l).extract 0 k = S (l.take k) := by
  rw [← S_eq ((S l).extract 0 k), Lib.extract_from_zero]
  rfl

set_option maxHeartbeats 1600000 in
theorem requestCuts_any (s : ByteArray) (k : Int) (t : ByteArray) (w : World) (he : EnvR w) : Calls Tryd.prog 8 #[.string s, .int .i64 k, .string t] w (AwakePost w) := by
  obtain ⟨l, hl⟩ : ∃ l, l = s.data.toList := ⟨_, rfl⟩
  have hsl : s = S l := by rw [hl]; rfl
  obtain ⟨m, hm⟩ : ∃ m, m = t.data.toList := ⟨_, rfl⟩
  have htm : t = S m := by rw [hm]; rfl
  clear hl hm
  subst hsl htm
  have hz : (S l).size = l.length := rfl
  have hzm : (S m).size = m.length := rfl
  go_enter Tryd.func8, Tryd.ntmps8
  go_wp2_with fail
  refine (awake_req w he).mono ?_
  rintro e w1 ⟨rfl, hb1⟩
  have he1 := he.next hb1
  cases hp : Req.parse l with
  | error n =>
    have hn0 := parse_err_ne hp
    have en : ((n : Int) != 0) = true := by simp; omega
    go_wp2_with fail
    refine (reqParse_err l n w1 he1 hp).mono ?_
    rintro e w2 ⟨rfl, hb2⟩
    have hb2' := below_step hb1 hb2
    clear hp
    go_wp2
    go_ret
    exact ⟨rfl, hb2'.alloc hb2'.size _⟩
  | ok q =>
    have HT := Lib.hid (parse_take hp)
    have HM := Lib.hid (parse_more hp)
    obtain ⟨qm, qt, qh, qb⟩ := q
    go_wp2_with fail
    refine (reqParse_ok l qm qt qh qb w1 he1 hp).mono ?_
    rintro e w2 ⟨A, cap, rfl, hpc, hb2⟩
    have he2 := (he1.next hb2).next (below_alloc w2 (.cells #[.string (S qm), .string (S qt), .slice A qh.length cap, .string (S qb)] 33))
    have hb2' := below_step (below_step hb1 hb2) (below_alloc w2 (.cells #[.string (S qm), .string (S qt), .slice A qh.length cap, .string (S qb)] 33))
    clear hp hpc hb2 hb1 he1
    by_cases h7 : 700 < l.length
    · have h7' : 700 < (S l).size := h7
      go_wp2
      go_ret
      exact ⟨rfl, hb2'⟩
    · have h7' : ¬ 700 < (S l).size := h7
      by_cases h5 : 50 < m.length
      · have h5' : 50 < (S m).size := h5
        go_wp2
        go_ret
        exact ⟨rfl, hb2'⟩
      · have h5' : ¬ 50 < (S m).size := h5
        have hadd := fun w' : World => run_add_S w' l m (by omega)
        have hem := S_empty m
        have HE := Lib.hid hem
        clear hem
        by_cases hk : 0 ≤ k ∧ k < (l.length : Int)
        · obtain ⟨hk0, hk1⟩ := hk
          obtain ⟨kn, rfl⟩ : ∃ kn : Nat, k = kn := ⟨k.toNat, by omega⟩
          have hk1' : (kn : Int) < ((S l).size : Int) := hk1
          have hx := extract_take l kn
          have HP := Lib.hid (HT.out kn (by omega))
          go_wp2_with fail
          generalize w2.alloc (.cells #[.string (S qm), .string (S qt), .slice A qh.length cap, .string (S qb)] 33) = w3 at he2 hb2'
          refine (reqParse_err (l.take kn) 3 w3 he2 HP.out).mono ?_
          rintro e w4 ⟨rfl, hb4⟩
          have he4 := (he2.next hb4).next (below_alloc w4 (.cells #[.string ⟨#[]⟩, .string ⟨#[]⟩, .slice none 0 0, .string ⟨#[]⟩] 33))
          have hb4' := below_step (below_step hb2' hb4) (below_alloc w4 (.cells #[.string ⟨#[]⟩, .string ⟨#[]⟩, .slice none 0 0, .string ⟨#[]⟩] 33))
          clear hb4 hb2' he2 hx
          by_cases hm : m = []
          · have hm1 : (S m).toList.isEmpty = true := by rw [HE.out, hm]; rfl
            clear hm
            go_wp2
            go_ret
            exact ⟨rfl, hb4'⟩
          · have hm1 : (S m).toList.isEmpty = false := by rw [HE.out]; cases m with | nil => exact absurd rfl hm | cons _ _ => rfl
            have HP9 := Lib.hid (HM.out m hm (by omega))
            clear hm
            go_wp2_with fail
            generalize w4.alloc (.cells #[.string ⟨#[]⟩, .string ⟨#[]⟩, .slice none 0 0, .string ⟨#[]⟩] 33) = w5 at he4 hb4'
            refine (reqParse_err (l ++ m) 9 w5 he4 HP9.out).mono ?_
            rintro e w6 ⟨rfl, hb6⟩
            have hb6' := below_step hb4' hb6
            go_wp2
            go_ret
            exact ⟨rfl, hb6'.alloc hb6'.size _⟩
        · by_cases hm : m = []
          · have hm1 : (S m).toList.isEmpty = true := by rw [HE.out, hm]; rfl
            clear hm
            by_cases hk0 : 0 ≤ k
            · have hk1 : ¬ k < ((S l).size : Int) := fun h => hk ⟨hk0, h⟩
              clear hk
              go_wp2
              go_ret
              exact ⟨rfl, hb2'⟩
            · clear hk
              go_wp2
              go_ret
              exact ⟨rfl, hb2'⟩
          · have hm1 : (S m).toList.isEmpty = false := by rw [HE.out]; cases m with | nil => exact absurd rfl hm | cons _ _ => rfl
            have HP9 := Lib.hid (HM.out m hm (by omega))
            clear hm
            by_cases hk0 : 0 ≤ k
            · have hk1 : ¬ k < ((S l).size : Int) := fun h => hk ⟨hk0, h⟩
              clear hk
              go_wp2_with fail
              generalize w2.alloc (.cells #[.string (S qm), .string (S qt), .slice A qh.length cap, .string (S qb)] 33) = w3 at he2 hb2'
              refine (reqParse_err (l ++ m) 9 w3 he2 HP9.out).mono ?_
              rintro e w6 ⟨rfl, hb6⟩
              have hb6' := below_step hb2' hb6
              go_wp2
              go_ret
              exact ⟨rfl, hb6'.alloc hb6'.size _⟩
            · clear hk
              go_wp2_with fail
              generalize w2.alloc (.cells #[.string (S qm), .string (S qt), .slice A qh.length cap, .string (S qb)] 33) = w3 at he2 hb2'
              refine (reqParse_err (l ++ m) 9 w3 he2 HP9.out).mono ?_
              rintro e w6 ⟨rfl, hb6⟩
              have hb6' := below_step hb2' hb6
              go_wp2
              go_ret
              exact ⟨rfl, hb6'.alloc hb6'.size _⟩
end Go.Proofs.YtbpeohadgplaaaaDoor
