/- How long what is written of a guessed element may be; no program stands in it. No condition. -/
import Derived.Test.YtpleaopefngafaaDoorXmAw
import Derived.Test.YtpleaopefngafaaDoorXmAz
namespace Go.Proofs.YtpleaopefngafaaDoor
set_option maxRecDepth 8000
namespace Xm

theorem wr_len (n : N) : (wr n).length = 5 + 2 * n.name.length + (attrsS n.attrs).length + (escape n.text).length + (n.kids.flatMap wr).length := by
  rw [wr_eq]
  simp
  omega
theorem escape6 (l : Bytes) : (escape l).length ≤ 6 * l.length := escape_len l
theorem wr_addKid (p t : N) : (wr (addKid p t)).length = (wr p).length + (wr t).length := by
  cases p with
  | mk nm ats tx ks =>
    rw [wr_len, wr_len (.mk nm ats tx ks)]
    show 5 + 2 * nm.length + (attrsS ats).length + (escape tx).length + ((ks ++ [t]).flatMap wr).length = 5 + 2 * nm.length + (attrsS ats).length + (escape tx).length + (ks.flatMap wr).length + (wr t).length
    rw [List.flatMap_append, List.length_append]
    simp
    omega
theorem unescape_short (l : Bytes) : ((unescape l).getD []).length ≤ l.length := by
  cases hu : unescape l with
  | none => simp
  | some p =>
    have h1 := (unescape_is l p).1 hu
    have h2 := escape_le p
    rw [← h1] at h2
    exact h2
theorem cut_sum (r sep : Bytes) : (Lib.cut r sep).1.length + (Lib.cut r sep).2.1.length ≤ r.length := by
  unfold Lib.cut
  split
  · simp; omega
  · simp
theorem attrs_weight : ∀ (k : Nat) (r : Bytes), r.length ≤ k → (attrsS (attrsL r)).length ≤ 10 * r.length
  | 0, r, h => by
    have : r = [] := List.length_eq_zero_iff.1 (by omega)
    subst this
    simp [attrsL, attrsG, attrsS]
  | k + 1, r, h => by
    by_cases hr : r = []
    · subst hr; simp [attrsL, attrsG, attrsS]
    · have hl := stepR_less hr
      have ih := attrs_weight k (stepR r) (by omega)
      rw [attrsL_step hr]
      have e : attrsS ((stepN r, stepV r) :: attrsL (stepR r)) = attrS (stepN r, stepV r) ++ attrsS (attrsL (stepR r)) := by unfold attrsS; rw [List.flatMap_cons]
      have e2 : (attrS (stepN r, stepV r)).length = 4 + (stepN r).length + (escape (stepV r)).length := by unfold attrS; simp; omega
      have h6 := escape6 (stepV r)
      have hs1 := cut_sum r [61, 34]
      have hs2 := cut_sum (Lib.cut r [61, 34]).2.1 [34]
      have hu := unescape_short (Lib.cut (Lib.cut r [61, 34]).2.1 [34]).1
      have ht := Lib.trimPrefix_le (Lib.cut (Lib.cut r [61, 34]).2.1 [34]).2.1 [32]
      have f1 : (stepN r).length = (Lib.cut r [61, 34]).1.length := rfl
      have f2 : (stepV r).length ≤ (Lib.cut (Lib.cut r [61, 34]).2.1 [34]).1.length := hu
      have f3 : (stepR r).length ≤ (Lib.cut (Lib.cut r [61, 34]).2.1 [34]).2.1.length := ht
      rw [e, List.length_append, e2]
      by_cases hc : (Lib.cut r [61, 34]).2.1 = []
      · have z1 : (Lib.cut (Lib.cut r [61, 34]).2.1 [34]).1.length = 0 := by rw [hc]; rfl
        have z2 : (Lib.cut (Lib.cut r [61, 34]).2.1 [34]).2.1.length = 0 := by rw [hc]; rfl
        have hrp : 0 < r.length := List.length_pos_iff.2 hr
        omega
      · have hcut : (Lib.cut r [61, 34]).1.length + 2 + (Lib.cut r [61, 34]).2.1.length ≤ r.length := by
          unfold Lib.cut at hc ⊢
          split
          · rename_i hi
            rw [if_pos hi] at hc
            have : (r.drop ((Lib.index r [61, 34]).toNat + 2)).length ≠ 0 := by
              intro hz
              exact hc (List.length_eq_zero_iff.1 hz)
            simp at this ⊢
            omega
          · rename_i hi
            rw [if_neg hi] at hc
            exact absurd rfl hc
        omega
theorem element_weight (m t : Bytes) : (wr (elementG m t)).length ≤ 5 + 10 * m.length + 6 * t.length := by
  rw [elementG_eq, wr_len]
  have h1 := attrs_weight _ (Lib.cut m [32]).2.1 (Nat.le_refl _)
  have h2 := cut_sum m [32]
  have h3 := escape6 ((unescape t).getD [])
  have h4 := unescape_short t
  show 5 + 2 * (Lib.cut m [32]).1.length + (attrsS (attrsL (Lib.cut m [32]).2.1)).length + (escape ((unescape t).getD [])).length + ([].flatMap wr).length ≤ _
  simp
  omega
def weight (rs : List N) : Nat := (rs.map fun n => (wr n).length).sum
theorem cutM_sum (s : Bytes) : (cutM s).1.length + (cutM s).2.1.length + (cutM s).2.2.length ≤ s.length := by
  have h := cut_sum s [62]
  have h2 : ((Lib.cut s [62]).2.1.takeWhile (· != 60)).length + ((Lib.cut s [62]).2.1.dropWhile (· != 60)).length = (Lib.cut s [62]).2.1.length := by
    rw [← List.length_append, List.takeWhile_append_dropWhile]
  unfold cutM
  show (Lib.cut s [62]).1.length + ((Lib.cut s [62]).2.1.takeWhile (· != 60)).length + ((Lib.cut s [62]).2.1.dropWhile (· != 60)).length ≤ _
  omega
theorem guess_weight : ∀ (f : Nat) (rs : List N) (s : Bytes), (wr (guess f rs s)).length ≤ 5 + weight rs + 20 * s.length
  | 0, rs, s => by
    show (wr zero).length ≤ _
    have : (wr zero).length = 5 := by decide
    omega
  | f + 1, rs, s => by
    have hz : (wr zero).length = 5 := by decide
    rw [guess_succ]
    have hs := cutM_sum s
    split
    · omega
    · rename_i h1
      have hp : 1 ≤ (cutM s).1.length := by
        have : Lib.hasPrefix (cutM s).1 [60] = true := by simpa using h1
        cases hc : (cutM s).1 with
        | nil => rw [hc] at this; simp [Lib.hasPrefix] at this
        | cons x l => simp
      split
      · refine Nat.le_trans (guess_weight f _ _) ?_
        have h2 := element_weight ((cutM s).1.drop 1) (cutM s).2.1
        have h3 : weight (elementG ((cutM s).1.drop 1) (cutM s).2.1 :: rs) = (wr (elementG ((cutM s).1.drop 1) (cutM s).2.1)).length + weight rs := by unfold weight; simp
        rw [h3]
        rw [List.length_drop] at h2
        omega
      · match rs with
        | [] => show (wr zero).length ≤ _; omega
        | [t] =>
          show (wr t).length ≤ _
          have : weight [t] = (wr t).length := by unfold weight; simp
          omega
        | t :: p :: r =>
          show (wr (guess f (addKid p t :: r) (cutM s).2.2)).length ≤ _
          refine Nat.le_trans (guess_weight f _ _) ?_
          have h3 : weight (addKid p t :: r) = weight (t :: p :: r) := by
            unfold weight
            simp [wr_addKid]
            omega
          rw [h3]
          omega
theorem guess_short (s : Bytes) : (wr (guess 400 [] s)).length ≤ 5 + 20 * s.length := by
  have := guess_weight 400 [] s
  have h : weight [] = 0 := rfl
  omega
theorem attrsS_ge : ∀ l : List PairL, l.length ≤ (attrsS l).length ∧ ∀ p ∈ l, p.1.length ≤ (attrsS l).length ∧ p.2.length ≤ (attrsS l).length
  | [] => ⟨by simp [attrsS], fun p hp => by cases hp⟩
  | a :: l => by
    have ih := attrsS_ge l
    have e : attrsS (a :: l) = attrS a ++ attrsS l := by unfold attrsS; rw [List.flatMap_cons]
    have e2 : (attrS a).length = 4 + a.1.length + (escape a.2).length := by unfold attrS; simp; omega
    have h3 := escape_le a.2
    rw [e, List.length_append, e2]
    refine ⟨by simp; omega, fun p hp => ?_⟩
    rcases List.mem_cons.1 hp with rfl | hp
    · constructor <;> omega
    · have := ih.2 p hp
      constructor <;> omega
theorem kids_ge : ∀ ks : List N, ks.length ≤ (ks.flatMap wr).length ∧ ∀ k ∈ ks, (wr k).length ≤ (ks.flatMap wr).length
  | [] => ⟨by simp, fun k hk => by cases hk⟩
  | a :: ks => by
    have ih := kids_ge ks
    have h1 : 5 ≤ (wr a).length := by rw [wr_len]; omega
    rw [List.flatMap_cons, List.length_append]
    refine ⟨by rw [List.length_cons]; omega, fun k hk => ?_⟩
    rcases List.mem_cons.1 hk with rfl | hk
    · omega
    · have := ih.2 k hk
      omega
end Xm

theorem lim_of_wr (m : Nat) : ∀ (M : Nat) (n : Xm.N), Xm.size n ≤ M → (Xm.wr n).length ≤ m → All (Lim m) n := by
  intro M
  induction M with
  | zero => intro n hM; exfalso; cases n with | mk nm ats tx ks => rw [Xm.size] at hM; omega
  | succ M ih =>
    intro n hM hl
    cases n with
    | mk nm ats tx ks =>
      have hw := Xm.wr_len (.mk nm ats tx ks)
      have hw' : (Xm.wr (.mk nm ats tx ks)).length = 5 + 2 * nm.length + (Xm.attrsS ats).length + (Xm.escape tx).length + (ks.flatMap Xm.wr).length := hw
      have ha := Xm.attrsS_ge ats
      have hk := Xm.kids_ge ks
      have he := escape_le tx
      rw [Xm.size] at hM
      unfold All
      refine ⟨⟨by show ats.length ≤ m; omega, by show ks.length ≤ m; omega, by show nm.length ≤ m; omega, by show tx.length ≤ m; omega, fun p hp => ?_⟩, ?_⟩
      · have := ha.2 p hp
        constructor <;> omega
      · have hgo : ∀ l : List Xm.N, Xm.sizeL l ≤ M → (∀ k ∈ l, (Xm.wr k).length ≤ m) → AllL (Lim m) l := by
          intro l
          induction l with
          | nil => intro _ _; unfold AllL; trivial
          | cons k l ih2 =>
            intro hs hm
            rw [Xm.sizeL] at hs
            unfold AllL
            exact ⟨ih k (by omega) (hm k (by simp)), ih2 (by omega) (fun x hx => hm x (by simp [hx]))⟩
        exact hgo ks (by omega) (fun k hk2 => by have := hk.2 k hk2; omega)
theorem limits {m : Nat} {n : Xm.N} (h : (Xm.wr n).length ≤ m) : All (Lim m) n := lim_of_wr m _ n (Nat.le_refl _) h
end Go.Proofs.YtpleaopefngafaaDoor
