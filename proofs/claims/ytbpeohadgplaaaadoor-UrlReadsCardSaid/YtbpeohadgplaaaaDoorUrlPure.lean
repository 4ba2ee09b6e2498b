/- Plain functions on lists of bytes for URLs (scheme, host, port, dots, percents) and what follows of them; no program stands in it. No condition. -/
import Derived.Test.YtbpeohadgplaaaaDoorForms
namespace Go.Proofs.YtbpeohadgplaaaaDoor
set_option maxRecDepth 8000
namespace Url
open Pct

/-! ### Texts that are gone through piece by piece -/

theorem told_nohex1 {a b : UInt8} (h : hexN a.toNat = none) : told a b = none := by unfold told; rw [h]
theorem told_nohex2 {a b : UInt8} (h : hexN b.toNat = none) : told a b = none := by
  unfold told
  rw [h]
  cases hexN a.toNat <;> rfl

theorem scan_sep (f g : UInt8 → List UInt8) (c : UInt8) (b : Bytes) (hc : c ≠ 37) (hx : hexN c.toNat = none) :
    ∀ (n : Nat) (a : Bytes), a.length ≤ n → scan f g (a ++ c :: b) = (scan f g a).bind fun x => (scan f g b).map fun y => x ++ (g c ++ y) := by
  intro n
  induction n with
  | zero =>
    intro a ha
    obtain rfl : a = [] := List.length_eq_zero_iff.1 (by omega)
    rw [List.nil_append, scan_other f g c b hc, scan_nil]
    simp
  | succ n ih =>
    intro a ha
    match a, ha with
    | [], _ =>
      rw [List.nil_append, scan_other f g c b hc, scan_nil]
      simp
    | d :: r, ha =>
      by_cases hd : d = 37
      · subst hd
        match r, ha with
        | [], _ =>
          rw [scan_short0]
          match b with
          | [] => exact scan_short1 f g c
          | e :: b' => exact scan_bad f g c e b' (told_nohex1 hx)
        | [x], _ =>
          rw [scan_short1]
          exact scan_bad f g x c b (told_nohex2 hx)
        | x :: y :: r', ha =>
          cases ht : told x y with
          | none =>
            rw [scan_bad f g x y r' ht]
            exact scan_bad f g x y (r' ++ c :: b) ht
          | some u =>
            have e1 : scan f g (37 :: x :: y :: r' ++ c :: b) = (scan f g (r' ++ c :: b)).map (f u ++ ·) := scan_pct f g x y u (r' ++ c :: b) ht
            rw [e1, scan_pct f g x y u r' ht, ih r' (by simp at ha; omega)]
            cases scan f g r' <;> cases scan f g b <;> simp
      · have e1 : scan f g (d :: r ++ c :: b) = (scan f g (r ++ c :: b)).map (g d ++ ·) := scan_other f g d (r ++ c :: b) hd
        rw [e1, scan_other f g d r hd, ih r (by simp at ha; omega)]
        cases scan f g r <;> cases scan f g b <;> simp

theorem scan_all (f g : UInt8 → List UInt8) (P : UInt8 → Bool) (hf : ∀ u, (f u).all P = true) : ∀ (n : Nat) (l o : Bytes), l.length ≤ n → (∀ c ∈ l, c ≠ 37 → (g c).all P = true) → scan f g l = some o → o.all P = true := by
  intro n
  induction n with
  | zero =>
    intro l o hl _ h
    obtain rfl : l = [] := List.length_eq_zero_iff.1 (by omega)
    cases h
    rfl
  | succ n ih =>
    intro l o hl hg h
    match l, hl, hg, h with
    | [], _, _, h => rw [scan_nil] at h; cases h; rfl
    | c :: r, hl, hg, h =>
      by_cases hc : c = 37
      · subst hc
        match r, hl, hg, h with
        | [], _, _, h => rw [scan_short0] at h; cases h
        | [a], _, _, h => rw [scan_short1] at h; cases h
        | a :: b :: r', hl, hg, h =>
          cases ht : told a b with
          | none => rw [scan_bad f g a b r' ht] at h; cases h
          | some u =>
            rw [scan_pct f g a b u r' ht, Option.map_eq_some_iff] at h
            obtain ⟨o', ho, rfl⟩ := h
            rw [List.all_append, hf u, ih r' o' (by simp at hl; omega) (fun c hc => hg c (by simp [hc])) ho]
            rfl
      · rw [scan_other f g c r hc, Option.map_eq_some_iff] at h
        obtain ⟨o', ho, rfl⟩ := h
        rw [List.all_append, hg c (by simp) hc, ih r o' (by simp at hl; omega) (fun c hc => hg c (by simp [hc])) ho]
        rfl

/-- Normal, of a text that has no byte c that stands as itself. -/
theorem enc1_all (P : UInt8 → Bool) (h1 : ∀ c, plainB c = true → P c = true) (h2 : P 37 = true) (u : UInt8) : (enc1 u).all P = true := by
  unfold enc1
  by_cases hp : plainB u = true
  · simp [hp, h1 u hp]
  · have d1 := h1 _ (dig_plain_all (u.toNat / 16) (by have := u8_lt u; omega))
    have d2 := h1 _ (dig_plain_all (u.toNat % 16) (by omega))
    simp [hp, h2, d1, d2]
theorem norm_all (P : UInt8 → Bool) (h1 : ∀ c, plainB c = true → P c = true) (h2 : P 37 = true) {l o : Bytes} (hl : l.all P = true) (h : norm l = some o) : o.all P = true :=
  scan_all enc1 (fun c => [c]) P (enc1_all P h1 h2) l.length l o (Nat.le_refl _) (fun c hc _ => by have := List.all_eq_true.1 hl c hc; simp [this]) h

def noB (c : UInt8) (x : UInt8) : Bool := decide (x ≠ c)
theorem norm_no (c : UInt8) (h1 : plainB c = false) (h2 : c ≠ 37) {l o : Bytes} (hl : ∀ x ∈ l, x ≠ c) (h : norm l = some o) : ∀ x ∈ o, x ≠ c := by
  have := norm_all (noB c) (fun x hx => by
    unfold noB
    simp
    rintro rfl
    rw [hx] at h1
    cases h1) (by unfold noB; simpa using h2.symm) (by rw [List.all_eq_true]; intro x hx; unfold noB; simpa using hl x hx) h
  intro x hx
  have := List.all_eq_true.1 this x hx
  unfold noB at this
  simpa using this

theorem norm_sep (c : UInt8) (hc : c ≠ 37) (hx : hexN c.toNat = none) (a b : Bytes) : norm (a ++ c :: b) = (norm a).bind fun x => (norm b).map fun y => x ++ c :: y :=
  (scan_sep enc1 (fun c => [c]) c b hc hx a.length a (Nat.le_refl _))
theorem norm_cons (c : UInt8) (hc : c ≠ 37) (r : Bytes) : norm (c :: r) = (norm r).map (c :: ·) := scan_other _ _ c r hc

/-- A text that is normal. -/
def Nrm (l : Bytes) : Prop := norm l = some l
theorem nrm_nil : Nrm [] := rfl
theorem nrm_sep (c : UInt8) (hc : c ≠ 37) (hx : hexN c.toNat = none) {a b : Bytes} (ha : Nrm a) (hb : Nrm b) : Nrm (a ++ c :: b) := by
  unfold Nrm at *
  rw [norm_sep c hc hx, ha, hb]
  rfl
theorem nrm_cons (c : UInt8) (hc : c ≠ 37) {b : Bytes} (hb : Nrm b) : Nrm (c :: b) := by
  unfold Nrm at *
  rw [norm_cons c hc, hb]
  rfl

theorem free_append (c : UInt8) : ∀ (a x b y : Bytes), (∀ z ∈ a, z ≠ c) → (∀ z ∈ x, z ≠ c) → x ++ c :: y = a ++ c :: b → x = a ∧ y = b := by
  intro a x b y ha hx h
  have e1 := cutAt_first c y x hx
  rw [h, cutAt_first c b a ha] at e1
  simp only [Prod.mk.injEq] at e1
  exact ⟨e1.1.symm, e1.2.1.symm⟩

/-- The pieces of a normal text are normal. -/
theorem split_no (c : UInt8) : ∀ (l p : Bytes), p ∈ split c l → ∀ x ∈ p, x ≠ c
  | [], p, h, x, hx => by
    simp [split] at h
    subst h
    cases hx
  | y :: r, p, h, x, hx => by
    by_cases hy : y = c
    · rw [hy, split_hit, List.mem_cons] at h
      rcases h with rfl | h
      · cases hx
      · exact split_no c r p h x hx
    · cases hs : split c r with
      | nil => exact absurd hs (split_ne c r)
      | cons q qs =>
        rw [split_other c y r q qs hy hs, List.mem_cons] at h
        rcases h with rfl | h
        · rcases List.mem_cons.1 hx with rfl | hx
          · exact hy
          · exact split_no c r q (by rw [hs]; simp) x hx
        · exact split_no c r p (by rw [hs]; simp [h]) x hx

theorem cut_parts (c : UInt8) : ∀ l : Bytes, (∀ x ∈ l, x ≠ c) ∨ ∃ a b, (∀ x ∈ a, x ≠ c) ∧ l = a ++ c :: b
  | [] => .inl (fun x hx => by cases hx)
  | y :: r => by
    by_cases hy : y = c
    · exact .inr ⟨[], r, (fun x hx => by cases hx), by rw [hy]; rfl⟩
    · rcases cut_parts c r with h | ⟨a, b, ha, hb⟩
      · refine .inl fun x hx => ?_
        rcases List.mem_cons.1 hx with rfl | hx
        · exact hy
        · exact h x hx
      · refine .inr ⟨y :: a, b, fun x hx => ?_, by rw [hb]; rfl⟩
        rcases List.mem_cons.1 hx with rfl | hx
        · exact hy
        · exact ha x hx

theorem nrm_split (c : UInt8) (hp : plainB c = false) (hc : c ≠ 37) (hx : hexN c.toNat = none) : ∀ (n : Nat) (l : Bytes), l.length ≤ n → Nrm l → ∀ p ∈ split c l, Nrm p := by
  intro n
  induction n with
  | zero =>
    intro l hl _ p hpp
    obtain rfl : l = [] := List.length_eq_zero_iff.1 (by omega)
    simp [split] at hpp
    subst hpp
    rfl
  | succ n ih =>
    intro l hl h p hpp
    rcases cut_parts c l with hno | ⟨a, b, ha, rfl⟩
    · rw [split_none c l hno] at hpp
      simp at hpp
      subst hpp
      exact h
    · rw [split_append, split_none c a ha] at hpp
      unfold Nrm at h
      rw [norm_sep c hc hx] at h
      cases hxa : norm a with
      | none => rw [hxa] at h; cases h
      | some x =>
        cases hyb : norm b with
        | none => rw [hxa, hyb] at h; cases h
        | some y =>
          rw [hxa, hyb] at h
          have e : x ++ c :: y = a ++ c :: b := by simpa using h
          obtain ⟨rfl, rfl⟩ := free_append c a x b y ha (norm_no c hp hc ha hxa) e
          rcases List.mem_append.1 hpp with hq | hq
          · simp at hq
            subst hq
            exact hxa
          · exact ih y (by simp at hl; omega) hyb p hq

/-! ### Dots -/
def joinS (ps : List Bytes) : Bytes := ps.flatMap fun p => 47 :: p
theorem joinS_cons (p : Bytes) (ps : List Bytes) : joinS (p :: ps) = 47 :: (p ++ joinS ps) := by simp [joinS]
theorem joinS_append (a b : List Bytes) : joinS (a ++ b) = joinS a ++ joinS b := by simp [joinS]

def isDot (p : Bytes) : Bool := p == [46] || p == [46, 46]
def keep1 (kept : List Bytes) (p : Bytes) : List Bytes := if p = [46] then kept else if p = [46, 46] then kept.dropLast else kept ++ [p]
def keptOf (segs : List Bytes) : List Bytes := segs.foldl keep1 []
def lastD (l : List Bytes) : Bytes := l.getLast?.getD []
theorem lastD_mem (l : List Bytes) (h : l ≠ []) : lastD l ∈ l := by
  unfold lastD
  rw [List.getLast?_eq_some_getLast h]
  exact List.getLast_mem h
def tailOf (segs kept : List Bytes) : Bytes := if isDot (lastD segs) || kept.isEmpty then [47] else []
def dots (p : Bytes) : Bytes :=
  match p with
  | [] => []
  | c :: r => if c = 47 then joinS (keptOf (split 47 r)) ++ tailOf (split 47 r) (keptOf (split 47 r)) else p

theorem fold_mem : ∀ (segs acc : List Bytes) (p : Bytes), p ∈ segs.foldl keep1 acc → p ∈ acc ∨ (p ∈ segs ∧ isDot p = false)
  | [], acc, p, h => .inl h
  | s :: segs, acc, p, h => by
    rw [List.foldl_cons] at h
    rcases fold_mem segs _ p h with h1 | h1
    · unfold keep1 at h1
      by_cases e1 : s = [46]
      · rw [if_pos e1] at h1; exact .inl h1
      · rw [if_neg e1] at h1
        by_cases e2 : s = [46, 46]
        · rw [if_pos e2] at h1
          exact .inl (List.dropLast_subset _ h1)
        · rw [if_neg e2] at h1
          rcases List.mem_append.1 h1 with h2 | h2
          · exact .inl h2
          · simp at h2
            subst h2
            exact .inr ⟨by simp, by unfold isDot; simp [e1, e2]⟩
    · exact .inr ⟨by simp [h1.1], h1.2⟩
theorem kept_mem {segs : List Bytes} {p : Bytes} (h : p ∈ keptOf segs) : p ∈ segs ∧ isDot p = false := by
  rcases fold_mem segs [] p h with h | h
  · cases h
  · exact h
theorem fold_none : ∀ (segs acc : List Bytes), (∀ p ∈ segs, isDot p = false) → segs.foldl keep1 acc = acc ++ segs
  | [], acc, _ => by simp
  | s :: segs, acc, h => by
    have hs := h s (by simp)
    have e1 : s ≠ [46] := by rintro rfl; cases hs
    have e2 : s ≠ [46, 46] := by rintro rfl; cases hs
    rw [List.foldl_cons, keep1, if_neg e1, if_neg e2, fold_none segs (acc ++ [s]) (fun p hp => h p (by simp [hp]))]
    simp
theorem kept_none {segs : List Bytes} (h : ∀ p ∈ segs, isDot p = false) : keptOf segs = segs := by
  unfold keptOf
  rw [fold_none segs [] h]
  simp

theorem split_join : ∀ (p : Bytes) (ps : List Bytes), (∀ x ∈ p, x ≠ 47) → (∀ q ∈ ps, ∀ x ∈ q, x ≠ 47) → split 47 (p ++ joinS ps) = p :: ps
  | p, [], h, _ => by simp [joinS, split_none 47 p h]
  | p, q :: ps, h, hs => by
    rw [joinS_cons, split_append, split_none 47 p h, split_join q ps (hs q (by simp)) (fun r hr => hs r (by simp [hr]))]
    rfl

/-- What Dots leaves: its segments. -/
theorem dots_segs (r : Bytes) : ∃ t segs, dots (47 :: r) = 47 :: t ∧ split 47 t = segs ∧ (∀ p ∈ segs, isDot p = false) ∧ (∀ p ∈ segs, p = [] ∨ p ∈ split 47 r) ∧ joinS segs = 47 :: t := by
  have hk : ∀ p ∈ keptOf (split 47 r), p ∈ split 47 r ∧ isDot p = false := fun p hp => kept_mem hp
  have hno : ∀ p ∈ keptOf (split 47 r), ∀ x ∈ p, x ≠ 47 := fun p hp => split_no 47 r p (hk p hp).1
  have hd : dots (47 :: r) = joinS (keptOf (split 47 r)) ++ tailOf (split 47 r) (keptOf (split 47 r)) := by simp [dots]
  rw [hd]
  cases hkept : keptOf (split 47 r) with
  | nil =>
    refine ⟨[], [[]], by simp [joinS, tailOf], rfl, fun p hp => by simp at hp; subst hp; rfl, fun p hp => by simp at hp; exact .inl hp, rfl⟩
  | cons p ps =>
    rw [hkept] at hk hno
    unfold tailOf
    by_cases ht : isDot (lastD (split 47 r)) = true
    · refine ⟨p ++ joinS (ps ++ [[]]), p :: (ps ++ [[]]), ?_, ?_, ?_, ?_, by rw [joinS_cons]⟩
      · rw [if_pos (by simp [ht]), joinS_cons, joinS_append]
        simp [joinS]
      · refine split_join p (ps ++ [[]]) (hno p (by simp)) (fun q hq => ?_)
        rcases List.mem_append.1 hq with hq | hq
        · exact hno q (by simp [hq])
        · simp at hq
          subst hq
          intro x hx
          cases hx
      · intro q hq
        rcases List.mem_cons.1 hq with rfl | hq
        · exact (hk q (by simp)).2
        · rcases List.mem_append.1 hq with hq | hq
          · exact (hk q (by simp [hq])).2
          · simp at hq
            subst hq
            rfl
      · intro q hq
        rcases List.mem_cons.1 hq with rfl | hq
        · exact .inr (hk q (by simp)).1
        · rcases List.mem_append.1 hq with hq | hq
          · exact .inr (hk q (by simp [hq])).1
          · simp at hq
            exact .inl hq
    · refine ⟨p ++ joinS ps, p :: ps, ?_, ?_, ?_, ?_, by rw [joinS_cons]⟩
      · rw [if_neg (by simpa using ht), joinS_cons]
        simp
      · exact split_join p ps (hno p (by simp)) (fun q hq => hno q (by simp [hq]))
      · exact fun q hq => (hk q hq).2
      · exact fun q hq => .inr (hk q hq).1

/-- A path without dots. -/
def Clean (p : Bytes) : Prop := ∃ t, p = 47 :: t ∧ ∀ q ∈ split 47 t, isDot q = false
theorem dots_clean (r : Bytes) : Clean (dots (47 :: r)) := by
  obtain ⟨t, segs, h1, h2, h3, _, _⟩ := dots_segs r
  exact ⟨t, h1, by rw [h2]; exact h3⟩
theorem join_split (t : Bytes) : ∀ n, t.length ≤ n → joinS (split 47 t) = 47 :: t := by
  intro n
  induction n generalizing t with
  | zero =>
    intro h
    obtain rfl : t = [] := List.length_eq_zero_iff.1 (by omega)
    rfl
  | succ n ih =>
    intro h
    rcases cut_parts 47 t with hno | ⟨a, b, ha, rfl⟩
    · rw [split_none 47 t hno, joinS_cons]
      simp [joinS]
    · rw [split_append, split_none 47 a ha]
      have := ih b (by simp at h; omega)
      rw [List.cons_append, List.nil_append, joinS_cons, this]
theorem dots_of_clean {p : Bytes} (h : Clean p) : dots p = p := by
  obtain ⟨t, rfl, hq⟩ := h
  have hd : dots (47 :: t) = joinS (keptOf (split 47 t)) ++ tailOf (split 47 t) (keptOf (split 47 t)) := by simp [dots]
  rw [hd, kept_none hq, join_split t t.length (Nat.le_refl _)]
  unfold tailOf
  have hne : (split 47 t).isEmpty = false := by
    cases hs : split 47 t with
    | nil => exact absurd hs (split_ne 47 t)
    | cons _ _ => rfl
  have hl : isDot (lastD (split 47 t)) = false := hq _ (lastD_mem _ (split_ne 47 t))
  rw [hl, hne]
  simp
theorem dots_dots (r : Bytes) : dots (dots (47 :: r)) = dots (47 :: r) := dots_of_clean (dots_clean r)

theorem mem_of_split (c : UInt8) : ∀ (l p : Bytes), p ∈ split c l → ∀ x ∈ p, x ∈ l
  | [], p, h, x, hx => by
    simp [split] at h
    subst h
    cases hx
  | y :: r, p, h, x, hx => by
    by_cases hy : y = c
    · rw [hy, split_hit, List.mem_cons] at h
      rcases h with rfl | h
      · cases hx
      · exact List.mem_cons_of_mem _ (mem_of_split c r p h x hx)
    · cases hs : split c r with
      | nil => exact absurd hs (split_ne c r)
      | cons q qs =>
        rw [split_other c y r q qs hy hs, List.mem_cons] at h
        rcases h with rfl | h
        · rcases List.mem_cons.1 hx with rfl | hx
          · simp
          · exact List.mem_cons_of_mem _ (mem_of_split c r q (by rw [hs]; simp) x hx)
        · exact List.mem_cons_of_mem _ (mem_of_split c r p (by rw [hs]; simp [h]) x hx)
theorem dots_all (P : UInt8 → Bool) (h47 : P 47 = true) (r : Bytes) (h : r.all P = true) : (dots (47 :: r)).all P = true := by
  obtain ⟨t, segs, h1, _, _, h4, h5⟩ := dots_segs r
  rw [h1, ← h5]
  unfold joinS
  rw [List.all_eq_true]
  intro x hx
  rw [List.mem_flatMap] at hx
  obtain ⟨p, hp, hx⟩ := hx
  rcases List.mem_cons.1 hx with rfl | hx
  · exact h47
  · rcases h4 p hp with rfl | hpm
    · cases hx
    · exact List.all_eq_true.1 h x (mem_of_split 47 r p hpm x hx)
theorem nrm_joinS : ∀ ps : List Bytes, (∀ p ∈ ps, Nrm p) → Nrm (joinS ps)
  | [], _ => rfl
  | [p], h => by
    have e : joinS [p] = 47 :: p := by simp [joinS]
    rw [e]
    exact nrm_cons 47 (by decide) (h p (by simp))
  | p :: q :: ps, h => by
    have ih := nrm_joinS (q :: ps) (fun r hr => h r (by simp [hr]))
    rw [joinS_cons, joinS_cons]
    refine nrm_cons 47 (by decide) (nrm_sep 47 (by decide) (by decide) (h p (by simp)) ?_)
    rw [joinS_cons] at ih
    unfold Nrm at ih ⊢
    rw [norm_cons 47 (by decide)] at ih
    cases hn : norm (q ++ joinS ps) with
    | none => rw [hn] at ih; cases ih
    | some z =>
      rw [hn] at ih
      have : z = q ++ joinS ps := by simpa using ih
      rw [this]
theorem dots_nrm (r : Bytes) (h : Nrm (47 :: r)) : Nrm (dots (47 :: r)) := by
  obtain ⟨t, segs, h1, _, _, h4, h5⟩ := dots_segs r
  rw [h1, ← h5]
  have hr : Nrm r := by
    unfold Nrm at h ⊢
    rw [norm_cons 47 (by decide)] at h
    cases hn : norm r with
    | none => rw [hn] at h; cases h
    | some z =>
      rw [hn] at h
      have : z = r := by simpa using h
      rw [this]
  refine nrm_joinS segs (fun p hp => ?_)
  rcases h4 p hp with rfl | hpm
  · rfl
  · exact nrm_split 47 (by decide) (by decide) (by decide) r.length r (Nat.le_refl _) hr p hpm

end Url
end Go.Proofs.YtbpeohadgplaaaaDoor
