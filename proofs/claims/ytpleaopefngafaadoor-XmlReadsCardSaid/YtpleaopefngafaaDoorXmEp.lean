/- The document's own reading of a text as an element, plain: an element from the front of a text, and what is left; it is the reverse of writing. No program stands in it. No condition. -/
import Derived.Test.YtpleaopefngafaaDoorXmG
namespace Go.Proofs.YtpleaopefngafaaDoor
set_option maxRecDepth 8000
namespace Xm

def tk (c : UInt8) (r : Bytes) : Bytes := r.takeWhile (· != c)
def dr (c : UInt8) (r : Bytes) : Bytes := r.dropWhile (· != c)
theorem tk_dr (c : UInt8) (r : Bytes) : r = tk c r ++ dr c r := (List.takeWhile_append_dropWhile ..).symm
theorem dr_head (c : UInt8) : ∀ (r : Bytes), dr c r ≠ [] → ∃ q, dr c r = c :: q
  | [], h => absurd rfl h
  | x :: r, h => by
    by_cases hx : x = c
    · subst hx
      exact ⟨r, by unfold dr; rw [List.dropWhile_cons]; simp⟩
    · have e : dr c (x :: r) = dr c r := by unfold dr; rw [List.dropWhile_cons, if_pos (by simp [hx])]
      rw [e] at h ⊢
      exact dr_head c r h
theorem tk_at (c : UInt8) (a b : Bytes) (h : ∀ x ∈ a, x ≠ c) : tk c (a ++ c :: b) = a ∧ dr c (a ++ c :: b) = c :: b := by
  induction a with
  | nil =>
    unfold tk dr
    exact ⟨by rw [List.nil_append, List.takeWhile_cons]; simp, by rw [List.nil_append, List.dropWhile_cons]; simp⟩
  | cons x a ih =>
    have hx := h x (by simp)
    have := ih (fun y hy => h y (by simp [hy]))
    unfold tk dr at this ⊢
    rw [List.cons_append, List.takeWhile_cons, List.dropWhile_cons, if_pos (by simp [hx]), if_pos (by simp [hx])]
    exact ⟨by rw [this.1], this.2⟩

/-! ### Attributes -/
/-- One attribute, behind its space, and what is left. -/
def attrAt (t : Bytes) : Option (PairL × Bytes) :=
  if (dr 61 t)[1]? = some 34 then (if dr 34 ((dr 61 t).drop 2) = [] then none else (unescape (tk 34 ((dr 61 t).drop 2))).map fun x => ((tk 61 t, x), (dr 34 ((dr 61 t).drop 2)).drop 1)) else none
def attrsP : Nat → Bytes → Option (List PairL × Bytes)
  | 0, _ => none
  | f + 1, r => if r.head? = some 32 then (attrAt (r.drop 1)).bind fun q => (attrsP f q.2).map fun z => (q.1 :: z.1, z.2) else some ([], r)
theorem attrAt_sound {t : Bytes} {p : PairL} {r : Bytes} (h : attrAt t = some (p, r)) : t = p.1 ++ 61 :: 34 :: (escape p.2 ++ 34 :: r) := by
  unfold attrAt at h
  have t1 := tk_dr 61 t
  have hd := dr_head 61 t
  obtain ⟨u, hu⟩ : ∃ u, dr 61 t = u := ⟨_, rfl⟩
  rw [hu] at h t1 hd
  by_cases h2 : u[1]? = some 34
  · rw [if_pos h2] at h
    obtain ⟨q1, hq1⟩ := hd (by intro e; rw [e] at h2; cases h2)
    rw [hq1] at h2 t1 h
    cases q1 with
    | nil => cases h2
    | cons y v =>
      have hy : y = 34 := by simpa using h2
      subst hy
      rw [show (61 :: 34 :: v : Bytes).drop 2 = v from rfl] at h
      by_cases h3 : dr 34 v = []
      · rw [if_pos h3] at h; cases h
      · rw [if_neg h3] at h
        obtain ⟨q, hq⟩ := dr_head 34 _ h3
        obtain ⟨x, hx, e⟩ := Option.map_eq_some_iff.1 h
        have hx' := (unescape_is _ _).1 hx
        have t2 := tk_dr 34 v
        rw [hq, hx'] at t2
        rw [hq] at e
        simp only [Prod.mk.injEq] at e
        obtain ⟨e1, e2⟩ := e
        rw [← e1, ← e2]
        show t = tk 61 t ++ 61 :: 34 :: (escape x ++ 34 :: q)
        rw [← t2]
        exact t1
  · rw [if_neg h2] at h; cases h
theorem attrAt_full {p : PairL} (h : attrB p = true) (r : Bytes) : attrAt (p.1 ++ 61 :: 34 :: (escape p.2 ++ 34 :: r)) = some (p, r) := by
  unfold attrB at h
  rw [Bool.and_eq_true] at h
  have e1 := tk_at 61 p.1 (34 :: (escape p.2 ++ 34 :: r)) (fun x hx => (nb_ne (name_byte h.1 x hx)).2.1)
  have e2 := tk_at 34 (escape p.2) r (fun x hx => (esc_ne x hx).2.2)
  unfold attrAt
  rw [e1.1, e1.2]
  have e3 : (61 :: 34 :: (escape p.2 ++ 34 :: r) : Bytes).drop 2 = escape p.2 ++ 34 :: r := rfl
  rw [e3, e2.1, e2.2, unescape_escape, if_pos (show (61 :: 34 :: (escape p.2 ++ 34 :: r) : Bytes)[1]? = some 34 from rfl), if_neg (by simp)]
  rfl
theorem attrsS_cons (p : PairL) (as : List PairL) (r : Bytes) : attrsS (p :: as) ++ r = 32 :: (p.1 ++ 61 :: 34 :: (escape p.2 ++ 34 :: (attrsS as ++ r))) := by
  unfold attrsS attrS
  rw [List.flatMap_cons]
  simp
theorem attrsP_sound : ∀ (f : Nat) (r : Bytes) (as : List PairL) (r' : Bytes), attrsP f r = some (as, r') → r = attrsS as ++ r'
  | 0, r, as, r', h => by unfold attrsP at h; cases h
  | f + 1, r, as, r', h => by
    unfold attrsP at h
    by_cases h1 : r.head? = some 32
    · rw [if_pos h1] at h
      obtain ⟨q, hq, h⟩ := Option.bind_eq_some_iff.1 h
      obtain ⟨z, hz, h⟩ := Option.map_eq_some_iff.1 h
      obtain ⟨p, r1⟩ := q
      obtain ⟨as1, r2⟩ := z
      simp only [Prod.mk.injEq] at h
      obtain ⟨e1, e2⟩ := h
      have ih := attrsP_sound f _ _ _ hz
      have hp := attrAt_sound hq
      cases r with
      | nil => cases h1
      | cons c r =>
        have hc : c = 32 := by simpa using h1
        rw [show (c :: r).drop 1 = r from rfl] at hp
        dsimp only at ih
        rw [← e1, ← e2, attrsS_cons, hc, hp, ih]
    · rw [if_neg h1] at h
      simp only [Option.some.injEq, Prod.mk.injEq] at h
      rw [← h.1, h.2]
      rfl
theorem attrsP_full : ∀ (as : List PairL) (f : Nat) (r : Bytes), as.all attrB = true → as.length < f → attrsP f (attrsS as ++ 62 :: r) = some (as, 62 :: r)
  | [], f, r, _, hf => by
    cases f with
    | zero => omega
    | succ f => unfold attrsP; rw [if_neg (by simp [attrsS])]; rfl
  | p :: as, f, r, h, hf => by
    cases f with
    | zero => simp at hf
    | succ f =>
      rw [List.all_cons, Bool.and_eq_true] at h
      rw [attrsS_cons]
      have ih := attrsP_full as f r h.2 (by simpa using hf)
      have h1 := attrAt_full h.1 (attrsS as ++ 62 :: r)
      unfold attrsP
      obtain ⟨t, ht⟩ : ∃ t, p.1 ++ 61 :: 34 :: (escape p.2 ++ 34 :: (attrsS as ++ 62 :: r)) = t := ⟨_, rfl⟩
      rw [ht] at h1 ⊢
      rw [if_pos (show (32 :: t : Bytes).head? = some 32 from rfl), show (32 :: t : Bytes).drop 1 = t from rfl, h1]
      dsimp only [Option.bind_some]
      rw [ih]
      rfl

/-! ### Kids and elements -/
/-- Whether a kid comes next. -/
def kidNext (r : Bytes) : Bool := decide (1 < r.length) && r.head? == some 60 && !(r[1]? == some 47)
def kidsP (p : Bytes → Option (N × Bytes)) : Nat → Bytes → Option (List N × Bytes)
  | 0, _ => none
  | f + 1, r => if kidNext r then match p r with
      | none => none
      | some (k, r1) => match kidsP p f r1 with
        | none => none
        | some (ks, r2) => some (k :: ks, r2)
    else some ([], r)
def inName (c : UInt8) : Bool := c != 32 && c != 62
def closing (nm : Bytes) : Bytes := 60 :: 47 :: (nm ++ [62])
/-- An element up to its kids: name, attributes, text; and what is left. -/
def headP (L : Nat) (r : Bytes) : Option ((Bytes × List PairL × Bytes) × Bytes) :=
  if r.head? = some 60 then (attrsP L ((r.drop 1).dropWhile inName)).bind fun q => if q.2.head? = some 62 then (unescape (tk 60 (q.2.drop 1))).map fun tx => (((r.drop 1).takeWhile inName, q.1, tx), dr 60 (q.2.drop 1)) else none else none
def lastP (h : Bytes × List PairL × Bytes) (k : List N × Bytes) : Option (N × Bytes) :=
  if (closing h.1).isPrefixOf k.2 then some (.mk h.1 h.2.1 h.2.2 k.1, k.2.drop (h.1.length + 3)) else none
def elP : Nat → Bytes → Option (N × Bytes)
  | 0, _ => none
  | D + 1, r => (headP (r.length + 1) r).bind fun h => (kidsP (elP D) (r.length + 1) h.2).bind fun k => lastP h.1 k
theorem kidsP_sound {p : Bytes → Option (N × Bytes)} (hp : ∀ r n r', p r = some (n, r') → r = wr n ++ r') : ∀ (f : Nat) (r : Bytes) (ks : List N) (r' : Bytes), kidsP p f r = some (ks, r') → r = wrL ks ++ r'
  | 0, r, ks, r', h => by unfold kidsP at h; cases h
  | f + 1, r, ks, r', h => by
    unfold kidsP at h
    by_cases h1 : kidNext r = true
    · rw [if_pos h1] at h
      cases hk : p r with
      | none => rw [hk] at h; cases h
      | some q =>
        obtain ⟨k, r1⟩ := q
        rw [hk] at h
        dsimp only at h
        cases hk2 : kidsP p f r1 with
        | none => rw [hk2] at h; cases h
        | some q =>
          obtain ⟨ks', r2⟩ := q
          rw [hk2] at h
          dsimp only at h
          injection h with h
          injection h with e1 e2
          subst e1 e2
          rw [hp _ _ _ hk, kidsP_sound hp f _ _ _ hk2]
          unfold wrL
          rw [List.append_assoc]
          cases ks' <;> rfl
    · rw [if_neg h1] at h
      injection h with h
      injection h with e1 e2
      subst e1 e2
      rfl
theorem headP_sound {L : Nat} {r : Bytes} {nm tx : Bytes} {as : List PairL} {t : Bytes} (h : headP L r = some ((nm, as, tx), t)) : r = 60 :: (nm ++ (attrsS as ++ 62 :: (escape tx ++ t))) := by
  unfold headP at h
  by_cases h1 : r.head? = some 60
  · rw [if_pos h1] at h
    obtain ⟨q, hq, h⟩ := Option.bind_eq_some_iff.1 h
    obtain ⟨as1, t2⟩ := q
    have s1 := attrsP_sound _ _ _ _ hq
    dsimp only at h
    by_cases h2 : t2.head? = some 62
    · rw [if_pos h2] at h
      obtain ⟨x, hx, h⟩ := Option.map_eq_some_iff.1 h
      simp only [Prod.mk.injEq] at h
      obtain ⟨⟨e1, e2, e3⟩, e4⟩ := h
      have s3 := (unescape_is _ _).1 hx
      have s4 := tk_dr 60 (t2.drop 1)
      have s5 : r.drop 1 = nm ++ (r.drop 1).dropWhile inName := by rw [← e1]; exact (List.takeWhile_append_dropWhile ..).symm
      rw [s3, e4, e3] at s4
      rw [s1, e2] at s5
      cases r with
      | nil => cases h1
      | cons c r =>
        have hc : c = 60 := by simpa using h1
        cases t2 with
        | nil => cases h2
        | cons y t2 =>
          have hy : y = 62 := by simpa using h2
          rw [show (y :: t2).drop 1 = t2 from rfl] at s4
          rw [show (c :: r).drop 1 = r from rfl] at s5
          rw [hc, s5, hy, s4]
    · rw [if_neg h2] at h; cases h
  · rw [if_neg h1] at h; cases h
theorem lastP_sound {nm tx : Bytes} {as : List PairL} {ks : List N} {t4 : Bytes} {n : N} {r' : Bytes} (h : lastP (nm, as, tx) (ks, t4) = some (n, r')) : n = .mk nm as tx ks ∧ t4 = closing nm ++ r' := by
  unfold lastP at h
  dsimp only at h
  by_cases h3 : (closing nm).isPrefixOf t4 = true
  · rw [if_pos h3] at h
    simp only [Option.some.injEq, Prod.mk.injEq] at h
    obtain ⟨t5, h5⟩ := List.isPrefixOf_iff_prefix.1 h3
    rw [← h5, show nm.length + 3 = (closing nm).length by simp [closing], List.drop_left] at h
    exact ⟨h.1.symm, by rw [← h.2, h5]⟩
  · rw [if_neg h3] at h; cases h
theorem elP_sound : ∀ (D : Nat) (r : Bytes) (n : N) (r' : Bytes), elP D r = some (n, r') → r = wr n ++ r'
  | 0, r, n, r', h => by unfold elP at h; cases h
  | D + 1, r, n, r', h => by
    unfold elP at h
    obtain ⟨q, hq, h⟩ := Option.bind_eq_some_iff.1 h
    obtain ⟨k, hk, h⟩ := Option.bind_eq_some_iff.1 h
    obtain ⟨⟨nm, as, tx⟩, t⟩ := q
    obtain ⟨ks, t4⟩ := k
    obtain ⟨rfl, h4⟩ := lastP_sound h
    have s1 := headP_sound hq
    have s2 := kidsP_sound (elP_sound D) _ _ _ _ hk
    dsimp only at s2
    rw [h4] at s2
    rw [s1, s2]
    unfold wr closing
    simp
theorem kidNext_close (nm r : Bytes) : kidNext (closing nm ++ r) = false := by
  unfold kidNext closing
  rfl
theorem in_name {nm : Bytes} (hn : nameB nm = true) (c : UInt8) (r : Bytes) (hc : inName c = false) : (nm ++ c :: r).takeWhile inName = nm ∧ (nm ++ c :: r).dropWhile inName = c :: r := by
  have h : ∀ x ∈ nm, inName x = true := fun x hx => by
    have := nb_ne (name_byte hn x hx)
    unfold inName
    simp [this.1, this.2.2.1]
  clear hn
  induction nm with
  | nil => rw [List.nil_append, List.takeWhile_cons, List.dropWhile_cons, hc]; exact ⟨rfl, rfl⟩
  | cons x nm ih =>
    have := ih (fun y hy => h y (by simp [hy]))
    rw [List.cons_append, List.takeWhile_cons, List.dropWhile_cons, h x (by simp)]
    exact ⟨by rw [if_pos rfl, this.1], by rw [if_pos rfl, this.2]⟩
theorem attrs_front (as : List PairL) (r : Bytes) : ∃ c q, attrsS as ++ 62 :: r = c :: q ∧ inName c = false := by
  cases as with
  | nil => exact ⟨62, r, rfl, rfl⟩
  | cons p as => exact ⟨32, _, attrsS_cons p as _, rfl⟩
theorem own_name {n : N} (h : own n = true) : nameB n.name = true := by
  cases n with
  | mk nm as tx ks => exact (own_parts h).1
theorem wr_next {n : N} (h : own n = true) (r : Bytes) : kidNext (wr n ++ r) = true := by
  have hn := own_name h
  cases n with
  | mk nm as tx ks =>
    cases nm with
    | nil => cases hn
    | cons c nm =>
      have := (nb_ne (name_byte (l := c :: nm) hn c List.mem_cons_self)).2.2.2.2
      unfold wr kidNext
      simp [this]
theorem wr_long : ∀ n : N, 1 ≤ (wr n).length := fun n => by
  obtain ⟨m, hm⟩ := wr_head n
  rw [hm]; simp
theorem attrs_long : ∀ as : List PairL, as.length ≤ (attrsS as).length
  | [] => Nat.zero_le _
  | p :: as => by
    have := attrs_long as
    have e := congrArg List.length (attrsS_cons p as [])
    rw [List.append_nil] at e
    rw [e]
    simp
    omega
theorem wrL_long : ∀ ks : List N, ks.length ≤ (wrL ks).length
  | [] => Nat.zero_le _
  | k :: ks => by
    have := wrL_long ks
    have := wr_long k
    unfold wrL
    rw [List.length_append, List.length_cons]
    omega
mutual
theorem elP_full : ∀ (n : N) (D k r : Nat) (rest : Bytes), own n = true → few n D k = some r → elP D (wr n ++ rest) = some (n, rest)
  | .mk nm as tx ks, D, k, r, rest, ho, hf => by
    obtain ⟨h1, h2, h3⟩ := own_parts ho
    unfold few at hf
    by_cases hz : D = 0 ∨ k = 0
    · rw [if_pos hz] at hf; cases hf
    · rw [if_neg hz] at hf
      cases D with
      | zero => exact absurd (Or.inl rfl) hz
      | succ D =>
        have e0 : wr (.mk nm as tx ks) ++ rest = 60 :: (nm ++ (attrsS as ++ 62 :: (escape tx ++ (wrL ks ++ (closing nm ++ rest))))) := by
          unfold wr closing
          simp
        have hlen : as.length + ks.length + 1 ≤ (wr (.mk nm as tx ks) ++ rest).length := by
          have := attrs_long as
          have := wrL_long ks
          rw [e0]
          simp
          omega
        obtain ⟨c, q, hq, hc⟩ := attrs_front as (escape tx ++ (wrL ks ++ (closing nm ++ rest)))
        have e1 := in_name h1 c q hc
        rw [← hq] at e1
        have e2 := attrsP_full as ((wr (.mk nm as tx ks) ++ rest).length + 1) (escape tx ++ (wrL ks ++ (closing nm ++ rest))) h2 (by omega)
        have hh : ∃ m, wrL ks ++ (closing nm ++ rest) = 60 :: m := wrL_head ks _ ⟨47 :: (nm ++ [62]) ++ rest, rfl⟩
        have e3 := take_none (t := escape tx) (fun x hx => (esc_ne x hx).1) (wrL ks ++ (closing nm ++ rest)) (head_is hh)
        have e4 := kidsP_full ks D (k - 1) r ((wr (.mk nm as tx ks) ++ rest).length + 1) nm rest h3 (by simpa using hf) (by omega)
        obtain ⟨L, hL⟩ : ∃ L, L = (wr (.mk nm as tx ks) ++ rest).length + 1 := ⟨_, rfl⟩
        rw [← hL] at e2 e4
        unfold elP
        rw [← hL, e0]
        obtain ⟨t2, ht2⟩ : ∃ t2, wrL ks ++ (closing nm ++ rest) = t2 := ⟨_, rfl⟩
        rw [ht2] at e1 e2 e3 e4 ⊢
        have e5 : headP L (60 :: (nm ++ (attrsS as ++ 62 :: (escape tx ++ t2)))) = some ((nm, as, tx), t2) := by
          unfold headP
          rw [if_pos (show (60 :: (nm ++ (attrsS as ++ 62 :: (escape tx ++ t2))) : Bytes).head? = some 60 from rfl), show (60 :: (nm ++ (attrsS as ++ 62 :: (escape tx ++ t2))) : Bytes).drop 1 = nm ++ (attrsS as ++ 62 :: (escape tx ++ t2)) from rfl, e1.1, e1.2, e2]
          dsimp only [Option.bind_some]
          rw [if_pos (show (62 :: (escape tx ++ t2) : Bytes).head? = some 62 from rfl), show (62 :: (escape tx ++ t2) : Bytes).drop 1 = escape tx ++ t2 from rfl]
          unfold tk dr
          rw [e3.1, e3.2, unescape_escape]
          rfl
        rw [e5]
        dsimp only [Option.bind_some]
        rw [e4]
        dsimp only [Option.bind_some]
        unfold lastP
        dsimp only
        rw [if_pos (List.isPrefixOf_iff_prefix.2 ⟨rest, rfl⟩), show nm.length + 3 = (closing nm).length by simp [closing], List.drop_left]
theorem kidsP_full : ∀ (ks : List N) (D k r f : Nat) (nm rest : Bytes), ownL ks = true → fewL ks D k = some r → ks.length < f → kidsP (elP D) f (wrL ks ++ (closing nm ++ rest)) = some (ks, closing nm ++ rest)
  | [], D, k, r, f, nm, rest, _, _, hf => by
    cases f with
    | zero => omega
    | succ f =>
      unfold kidsP
      rw [if_neg (by show ¬ kidNext (closing nm ++ rest) = true; rw [kidNext_close]; decide)]
      rfl
  | n :: ks, D, k, r, f, nm, rest, ho, hf, hl => by
    cases f with
    | zero => omega
    | succ f =>
      unfold ownL at ho
      rw [Bool.and_eq_true] at ho
      unfold fewL at hf
      cases hk : few n D k with
      | none => rw [hk] at hf; cases hf
      | some k' =>
        rw [hk] at hf
        have e0 : wrL (n :: ks) ++ (closing nm ++ rest) = wr n ++ (wrL ks ++ (closing nm ++ rest)) := by unfold wrL; rw [List.append_assoc]; cases ks <;> rfl
        rw [e0]
        have e1 := elP_full n D k k' (wrL ks ++ (closing nm ++ rest)) ho.1 hk
        have e2 := kidsP_full ks D k' r f nm rest ho.2 hf (by simpa using hl)
        unfold kidsP
        rw [if_pos (wr_next ho.1 _), e1]
        dsimp only
        rw [e2]
end
/-- What the document reads is what is written, of an element that can be. -/
theorem elP_read (s : Bytes) : read s = match elP 8 s with
    | none => none
    | some (n, r') => if r' = [] then if right n then some n else none else none := by
  cases hr : read s with
  | some n =>
    obtain ⟨h1, h2⟩ := (read_is s n).1 hr
    have h1' := h1
    unfold right at h1'
    rw [Bool.and_eq_true] at h1'
    obtain ⟨k, hk⟩ := Option.isSome_iff_exists.1 h1'.1
    have := elP_full n 8 200 k [] h1'.2 hk
    rw [List.append_nil, h2] at this
    rw [this]
    dsimp only
    rw [if_pos rfl, if_pos h1]
  | none =>
    cases he : elP 8 s with
    | none => rfl
    | some q =>
      obtain ⟨n, r'⟩ := q
      dsimp only
      by_cases h0 : r' = []
      · subst h0
        by_cases h1 : right n = true
        · have := elP_sound 8 s n [] he
          rw [List.append_nil] at this
          rw [(read_is s n).2 ⟨h1, this.symm⟩] at hr
          cases hr
        · rw [if_pos rfl, if_neg h1]
      · rw [if_neg h0]
end Xm
end Go.Proofs.YtpleaopefngafaaDoor
