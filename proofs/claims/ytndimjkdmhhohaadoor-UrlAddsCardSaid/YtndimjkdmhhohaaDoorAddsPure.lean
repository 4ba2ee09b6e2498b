/- That a URL with a pair more is one that can be, and which pairs it has: plain part. No condition. -/
import Derived.Test.YtndimjkdmhhohaaDoorNormalWalk
import Derived.Test.YtndimjkdmhhohaaDoorVn
namespace Go.Proofs.YtndimjkdmhhohaaDoor
set_option maxRecDepth 8000

theorem nrm_enc (x : List UInt8) : Url.Nrm (Pct.enc x) := Pct.norm_only _ _ x (Nat.le_refl _) (Pct.enc_ok x) (Pct.dec_enc false x)
theorem ok_enc (x : List UInt8) : (Pct.enc x).all Url.okB2 = true := by
  have := Pct.enc_ok x
  rw [List.all_eq_true] at this ⊢
  intro c hc
  have h := this c hc
  unfold Pct.okB at h
  rw [Bool.or_eq_true] at h
  rcases h with h | h
  · rw [beq_iff_eq.1 h]; decide
  · exact Url.plain_ok c h
theorem nrm_pair (n v : List UInt8) : Url.Nrm (Pct.enc n ++ [61] ++ Pct.enc v) := by
  rw [List.append_assoc]
  exact Url.nrm_sep 61 (by decide) (by decide) (nrm_enc n) (nrm_enc v)
theorem ok_pair (n v : List UInt8) : (Pct.enc n ++ [61] ++ Pct.enc v).all Url.okB2 = true := by
  rw [List.all_append, List.all_append, ok_enc, ok_enc]
  decide
theorem nrm_addQ {q : List UInt8} (n v : List UInt8) (hq : Url.Nrm q) : Url.Nrm (addQ q n v) := by
  unfold addQ
  by_cases h : q = []
  · rw [if_pos h, List.nil_append]
    exact nrm_pair n v
  · rw [if_neg h]
    have e : q ++ [38] ++ (Pct.enc n ++ [61] ++ Pct.enc v) = q ++ 38 :: (Pct.enc n ++ [61] ++ Pct.enc v) := by simp
    rw [e]
    exact Url.nrm_sep 38 (by decide) (by decide) hq (nrm_pair n v)
theorem ok_addQ {q : List UInt8} (n v : List UInt8) (hq : q.all Url.okB2 = true) : (addQ q n v).all Url.okB2 = true := by
  unfold addQ
  rw [List.all_append, ok_pair]
  split
  · rfl
  · rw [List.all_append, hq]
    decide
theorem addQ_len (q n v : List UInt8) : (addQ q n v).length ≤ q.length + 3 * n.length + 3 * v.length + 2 := by
  have h1 := (Pct.enc_len n).2
  have h2 := (Pct.enc_len v).2
  unfold addQ
  split
  · simp; omega
  · simp; omega
theorem good_add {u : Url.U} (n v : List UInt8) (g : Url.Good u) : Url.Good (addU u n v) :=
  ⟨g.scheme, g.host0, g.host64, g.hostB, g.port, g.clean, g.pathB, g.pathQ, g.pathN, ok_addQ n v g.queryB, nrm_addQ n v g.queryN, fun h => by cases h⟩
theorem origin_add (u : Url.U) (n v : List UInt8) : Url.origin (addU u n v) = Url.origin u := rfl
/-- WHAT WAS ADDED TO WHAT WAS READ IS READ AS IT IS. -/
theorem parse_add {l : List UInt8} {u : Url.U} (n v : List UInt8) (h : Parsed l u) (hl : l.length ≤ 200) (hn : n.length ≤ 100) (hv : v.length ≤ 100) : Url.parse (Url.str (addU u n v)) = .ok (addU u n v) := by
  refine Url.parse_str (good_add n v h.good) ?_
  have h1 := origin_len u h.few
  have h2 := h.scheme
  have h3 := h.good.host64
  have h4 := h.path
  have h5 := h.query
  have h6 := addQ_len u.query n v
  have e : Url.str (addU u n v) = Url.origin u ++ (u.path ++ 63 :: addQ u.query n v) := rfl
  rw [e]
  simp only [List.length_append, List.length_cons]
  omega
theorem few_add {u : Url.U} (n v : List UInt8) (h : Few u) (hq : u.query.length ≤ 1000) (hn : n.length ≤ 1000) (hv : v.length ≤ 1000) : Few (addU u n v) := by
  refine ⟨h.scheme, h.host, h.port, h.path, ?_⟩
  have h6 := addQ_len u.query n v
  show (addQ u.query n v).length ≤ _
  omega

theorem formGo_stays : ∀ (a b : List (List UInt8)) (acc : List Pct.PairL) (n : Nat), Pct.formGo acc a = .error n → Pct.formGo acc (a ++ b) = .error n
  | [], b, acc, n, h => by simp [Pct.formGo] at h
  | p :: ps, b, acc, n, h => by
    rw [List.cons_append]
    by_cases hp : p = []
    · subst hp
      rw [Pct.formGo_empty] at h ⊢
      exact formGo_stays ps b acc n h
    · by_cases hl : acc.length = 32
      · rw [Pct.formGo_full acc p ps hp hl] at h
        rw [Pct.formGo_full acc p (ps ++ b) hp hl]
        exact h
      · cases hq : Pct.pairOf p with
        | none =>
          rw [Pct.formGo_bad acc p ps hp hl hq] at h
          rw [Pct.formGo_bad acc p (ps ++ b) hp hl hq]
          exact h
        | some q =>
          rw [Pct.formGo_pair acc p ps q hp hl hq] at h
          rw [Pct.formGo_pair acc p (ps ++ b) q hp hl hq]
          exact formGo_stays ps b _ n h
theorem wr1_pair (n v : List UInt8) : Pct.enc n ++ [61] ++ Pct.enc v = Pct.wr1 (n, v) := by simp [Pct.wr1]
theorem split_pair (n v : List UInt8) : Pct.split 38 (Pct.enc n ++ [61] ++ Pct.enc v) = [Pct.wr1 (n, v)] := by
  rw [wr1_pair]
  exact Pct.split_none 38 _ (Pct.wr1_no (n, v))
theorem form_addQ (q n v : List UInt8) : Pct.form (addQ q n v) = match Pct.form q with
    | .error m => .error m
    | .ok x => if x.length = 32 then .error 5 else .ok (x ++ [(n, v)]) := by
  have hone : ∀ x : List Pct.PairL, Pct.formGo x [Pct.wr1 (n, v)] = if x.length = 32 then .error 5 else .ok (x ++ [(n, v)]) := by
    intro x
    by_cases hx : x.length = 32
    · rw [if_pos hx, Pct.formGo_full x _ [] (Pct.wr1_ne _) hx]
    · rw [if_neg hx, Pct.formGo_pair x _ [] (n, v) (Pct.wr1_ne _) hx (Pct.pairOf_wr1 _)]
      rfl
  unfold addQ
  by_cases h : q = []
  · rw [if_pos h, List.nil_append, h]
    unfold Pct.form
    rw [split_pair, hone]
    rfl
  · rw [if_neg h]
    have e : q ++ [38] ++ (Pct.enc n ++ [61] ++ Pct.enc v) = q ++ 38 :: (Pct.enc n ++ [61] ++ Pct.enc v) := by simp
    unfold Pct.form
    rw [e, Pct.split_append, split_pair]
    cases hf : Pct.formGo [] (Pct.split 38 q) with
    | error m => exact formGo_stays _ _ _ _ hf
    | ok x =>
      rw [Pct.formGo_append _ _ _ _ hf, hone]
end Go.Proofs.YtndimjkdmhhohaaDoor
