/- Plain functions on lists of bytes (percents and forms) and what follows of them; no program stands in it. No condition. -/
namespace Go.Proofs.YtfeaonbeklmfgaaGreatDoor
set_option maxRecDepth 8000
namespace Pct

def plainB (c : UInt8) : Bool := decide (97 ≤ c.toNat ∧ c.toNat ≤ 122 ∨ 65 ≤ c.toNat ∧ c.toNat ≤ 90 ∨ 48 ≤ c.toNat ∧ c.toNat ≤ 57 ∨ c.toNat = 45 ∨ c.toNat = 46 ∨ c.toNat = 95 ∨ c.toNat = 126)

def digs : List Nat := [48, 49, 50, 51, 52, 53, 54, 55, 56, 57, 65, 66, 67, 68, 69, 70, 97, 98, 99, 100, 101, 102]

def hexN (n : Nat) : Option Nat :=
  if 48 ≤ n ∧ n ≤ 57 then some (n - 48) else if 65 ≤ n ∧ n ≤ 70 then some (n - 55) else if 97 ≤ n ∧ n ≤ 102 then some (n - 87) else none

def dgt (k : Nat) : Nat := digs.getD k 0
theorem hex_hits : ∀ k : Nat, k < 22 → hexN (dgt k) = some (if 15 < k then k - 6 else k) := by decide +kernel
theorem hex_hit {k c : Nat} (hk : k < 22) (h : dgt k = c) : hexN c = some (if 15 < k then k - 6 else k) := by
  rw [← h]
  exact hex_hits k hk
theorem hex_miss {c : Nat} (h : ∀ j : Nat, j < 22 → dgt j ≠ c) : hexN c = none := by
  have h0 : (48 : Nat) ≠ c := h 0 (by omega)
  have h1 : (49 : Nat) ≠ c := h 1 (by omega)
  have h2 : (50 : Nat) ≠ c := h 2 (by omega)
  have h3 : (51 : Nat) ≠ c := h 3 (by omega)
  have h4 : (52 : Nat) ≠ c := h 4 (by omega)
  have h5 : (53 : Nat) ≠ c := h 5 (by omega)
  have h6 : (54 : Nat) ≠ c := h 6 (by omega)
  have h7 : (55 : Nat) ≠ c := h 7 (by omega)
  have h8 : (56 : Nat) ≠ c := h 8 (by omega)
  have h9 : (57 : Nat) ≠ c := h 9 (by omega)
  have g0 : (65 : Nat) ≠ c := h 10 (by omega)
  have g1 : (66 : Nat) ≠ c := h 11 (by omega)
  have g2 : (67 : Nat) ≠ c := h 12 (by omega)
  have g3 : (68 : Nat) ≠ c := h 13 (by omega)
  have g4 : (69 : Nat) ≠ c := h 14 (by omega)
  have g5 : (70 : Nat) ≠ c := h 15 (by omega)
  have k0 : (97 : Nat) ≠ c := h 16 (by omega)
  have k1 : (98 : Nat) ≠ c := h 17 (by omega)
  have k2 : (99 : Nat) ≠ c := h 18 (by omega)
  have k3 : (100 : Nat) ≠ c := h 19 (by omega)
  have k4 : (101 : Nat) ≠ c := h 20 (by omega)
  have k5 : (102 : Nat) ≠ c := h 21 (by omega)
  unfold hexN
  rw [if_neg (by omega), if_neg (by omega), if_neg (by omega)]
theorem hexN_lt {c v : Nat} (h : hexN c = some v) : v < 16 := by
  unfold hexN at h
  split at h
  · cases h; omega
  · split at h
    · cases h; omega
    · split at h
      · cases h; omega
      · cases h

def told (a b : UInt8) : Option UInt8 :=
  match hexN a.toNat, hexN b.toNat with
  | some x, some y => some (UInt8.ofNat (16 * x + y))
  | _, _ => none

def told2 : List UInt8 → Option UInt8
  | a :: b :: _ => told a b
  | _ => none

def dig (n : Nat) : UInt8 := UInt8.ofNat (dgt n)

def enc1 (c : UInt8) : List UInt8 := if plainB c then [c] else [37, dig (c.toNat / 16), dig (c.toNat % 16)]

def enc (l : List UInt8) : List UInt8 := l.flatMap enc1

/-- A text with percents, gone through: 'f' of each byte that a percent tells, 'g' of each other one; nothing, where a percent is none. -/
def scan (f g : UInt8 → List UInt8) : List UInt8 → Option (List UInt8)
  | [] => some []
  | c :: r =>
    if c = 37 then
      match r with
      | a :: b :: r' =>
        match told a b with
        | some u => (scan f g r').map (f u ++ ·)
        | none => none
      | _ => none
    else (scan f g r).map (g c ++ ·)

def plusB (p : Bool) (c : UInt8) : UInt8 := if p && c == 43 then 32 else c

def dec (p : Bool) (l : List UInt8) : Option (List UInt8) := scan (fun u => [u]) (fun c => [plusB p c]) l
def norm (l : List UInt8) : Option (List UInt8) := scan enc1 (fun c => [c]) l

theorem scan_nil (f g : UInt8 → List UInt8) : scan f g [] = some [] := rfl
theorem scan_other (f g : UInt8 → List UInt8) (c : UInt8) (r : List UInt8) (h : c ≠ 37) : scan f g (c :: r) = (scan f g r).map (g c ++ ·) := by
  rw [scan.eq_def]; simp only; rw [if_neg h]
theorem scan_pct (f g : UInt8 → List UInt8) (a b u : UInt8) (r : List UInt8) (h : told a b = some u) : scan f g (37 :: a :: b :: r) = (scan f g r).map (f u ++ ·) := by
  rw [scan.eq_def]; simp only [if_true, h]
theorem scan_bad (f g : UInt8 → List UInt8) (a b : UInt8) (r : List UInt8) (h : told a b = none) : scan f g (37 :: a :: b :: r) = none := by
  rw [scan.eq_def]; simp only [if_true, h]
theorem scan_short0 (f g : UInt8 → List UInt8) : scan f g [37] = none := by
  rw [scan.eq_def]; simp only [if_true]
theorem scan_short1 (f g : UInt8 → List UInt8) (a : UInt8) : scan f g [37, a] = none := by
  rw [scan.eq_def]; simp only [if_true]

theorem u8_eq {a b : UInt8} (h : a.toNat = b.toNat) : a = b := UInt8.toNat_inj.1 h
theorem u8_lt (a : UInt8) : a.toNat < 256 := UInt8.toNat_lt a

theorem told_dig_all : ∀ n : Nat, n < 256 → told (dig (n / 16)) (dig (n % 16)) = some (UInt8.ofNat n) := by decide +kernel
theorem told_dig (c : UInt8) : told (dig (c.toNat / 16)) (dig (c.toNat % 16)) = some c := by
  have := told_dig_all c.toNat (u8_lt c)
  rwa [UInt8.ofNat_toNat] at this
theorem dig_plain_all : ∀ n : Nat, n < 16 → plainB (dig n) = true := by decide +kernel
theorem plain_ne (c : UInt8) (h : plainB c = true) : c ≠ 37 ∧ c ≠ 43 ∧ c ≠ 38 ∧ c ≠ 61 := by
  unfold plainB at h
  have h := of_decide_eq_true h
  refine ⟨?_, ?_, ?_, ?_⟩ <;> (rintro rfl; revert h; decide)

/-- what is encoded, gone through. -/
theorem scan_enc1 (f g : UInt8 → List UInt8) (c : UInt8) (r : List UInt8) : scan f g (enc1 c ++ r) = (scan f g r).map ((if plainB c then g c else f c) ++ ·) := by
  unfold enc1
  by_cases h : plainB c = true
  · simp only [h, if_true]
    exact scan_other f g c r (plain_ne c h).1
  · simp only [h, if_false, Bool.false_eq_true]
    exact scan_pct f g _ _ c r (told_dig c)

theorem enc_nil : enc [] = [] := rfl
theorem enc_cons (c : UInt8) (l : List UInt8) : enc (c :: l) = enc1 c ++ enc l := by simp [enc]
theorem enc_append (a b : List UInt8) : enc (a ++ b) = enc a ++ enc b := by simp [enc]

theorem plusB_plain (p : Bool) (c : UInt8) (h : plainB c = true) : plusB p c = c := by
  unfold plusB
  have := (plain_ne c h).2.1
  simp [this]

/-- WHAT IS ENCODED IS DECODED. -/
theorem dec_enc (p : Bool) (l : List UInt8) : dec p (enc l) = some l := by
  unfold dec
  induction l with
  | nil => rfl
  | cons c l ih =>
    rw [enc_cons, scan_enc1, ih]
    by_cases h : plainB c = true
    · simp [h, plusB_plain p c h]
    · simp [h]

theorem enc_inj {a b : List UInt8} (h : enc a = enc b) : a = b := by
  have := dec_enc false a
  rw [h, dec_enc] at this
  exact (Option.some.inj this).symm

/-- plain, or the percent's own sign. -/
def okB (c : UInt8) : Bool := c == 37 || plainB c

theorem enc1_ok (c : UInt8) : (enc1 c).all okB = true := by
  unfold enc1 okB
  by_cases h : plainB c = true
  · simp [h]
  · have h1 := dig_plain_all (c.toNat / 16) (by have := u8_lt c; omega)
    have h2 := dig_plain_all (c.toNat % 16) (by omega)
    simp [h, h1, h2]
theorem enc_ok (l : List UInt8) : (enc l).all okB = true := by
  induction l with
  | nil => rfl
  | cons c l ih => rw [enc_cons, List.all_append, enc1_ok, ih]; rfl

theorem enc1_len (c : UInt8) : 1 ≤ (enc1 c).length ∧ (enc1 c).length ≤ 3 := by
  unfold enc1; split <;> simp
theorem enc_len (l : List UInt8) : l.length ≤ (enc l).length ∧ (enc l).length ≤ 3 * l.length := by
  induction l with
  | nil => simp [enc]
  | cons c l ih =>
    rw [enc_cons, List.length_append, List.length_cons]
    have := enc1_len c
    omega

theorem scan_len (f g : UInt8 → List UInt8) (hf : ∀ u, (f u).length ≤ 3) (hg : ∀ u, (g u).length ≤ 1) : ∀ (n : Nat) (l o : List UInt8), l.length ≤ n → scan f g l = some o → o.length ≤ l.length := by
  intro n
  induction n with
  | zero =>
    intro l o hl h
    obtain rfl : l = [] := List.length_eq_zero_iff.1 (by omega)
    rw [scan_nil] at h
    cases h
    simp
  | succ n ih =>
    intro l o hl h
    match l, hl, h with
    | [], _, h => rw [scan_nil] at h; cases h; simp
    | c :: r, hl, h =>
      by_cases hc : c = 37
      · subst hc
        match r, hl, h with
        | [], _, h => rw [scan_short0] at h; cases h
        | [a], _, h => rw [scan_short1] at h; cases h
        | a :: b :: r', hl, h =>
          cases ht : told a b with
          | none => rw [scan_bad f g a b r' ht] at h; cases h
          | some u =>
            rw [scan_pct f g a b u r' ht, Option.map_eq_some_iff] at h
            obtain ⟨o', ho, rfl⟩ := h
            have := ih r' o' (by simp at hl; omega) ho
            have := hf u
            simp
            omega
      · rw [scan_other f g c r hc, Option.map_eq_some_iff] at h
        obtain ⟨o', ho, rfl⟩ := h
        have := ih r o' (by simp at hl; omega) ho
        have := hg c
        simp
        omega
theorem dec_len {p : Bool} {l o : List UInt8} (h : dec p l = some o) : o.length ≤ l.length :=
  scan_len _ _ (by simp) (by simp) l.length l o (Nat.le_refl _) h
theorem norm_len {l o : List UInt8} (h : norm l = some o) : o.length ≤ l.length :=
  scan_len _ _ (fun u => (enc1_len u).2) (by simp) l.length l o (Nat.le_refl _) h

/-- Two ways of going through one text: what the second makes of the first one's answer. -/
theorem scan_scan (f g f' g' f2 g2 : UInt8 → List UInt8) (hp : ∀ u r, scan f' g' (f u ++ r) = (scan f' g' r).map (f2 u ++ ·)) (hq : ∀ c r, c ≠ 37 → scan f' g' (g c ++ r) = (scan f' g' r).map (g2 c ++ ·)) :
    ∀ (n : Nat) (l o : List UInt8), l.length ≤ n → scan f g l = some o → scan f' g' o = scan f2 g2 l := by
  intro n
  induction n with
  | zero =>
    intro l o hl h
    obtain rfl : l = [] := List.length_eq_zero_iff.1 (by omega)
    rw [scan_nil] at h
    cases h
    rfl
  | succ n ih =>
    intro l o hl h
    match l, hl, h with
    | [], _, h => rw [scan_nil] at h; cases h; rfl
    | c :: r, hl, h =>
      by_cases hc : c = 37
      · subst hc
        match r, hl, h with
        | [], _, h => rw [scan_short0] at h; cases h
        | [a], _, h => rw [scan_short1] at h; cases h
        | a :: b :: r', hl, h =>
          cases ht : told a b with
          | none => rw [scan_bad f g a b r' ht] at h; cases h
          | some u =>
            rw [scan_pct f g a b u r' ht, Option.map_eq_some_iff] at h
            obtain ⟨o', ho, rfl⟩ := h
            rw [hp, scan_pct f2 g2 a b u r' ht, ih r' o' (by simp at hl; omega) ho]
      · rw [scan_other f g c r hc, Option.map_eq_some_iff] at h
        obtain ⟨o', ho, rfl⟩ := h
        rw [hq c o' hc, scan_other f2 g2 c r hc, ih r o' (by simp at hl; omega) ho]

/-- NORMAL TELLS THE SAME BYTES. -/
theorem dec_norm {l a : List UInt8} (h : norm l = some a) : dec false a = dec false l := by
  refine scan_scan enc1 (fun c => [c]) _ _ _ _ (fun u r => ?_) (fun c r hc => ?_) l.length l a (Nat.le_refl _) h
  · rw [scan_enc1]
    by_cases hu : plainB u = true <;> simp [hu, plusB]
  · exact scan_other _ _ c r hc

/-- NORMAL TWICE IS NORMAL ONCE. -/
theorem norm_norm {l a : List UInt8} (h : norm l = some a) : norm a = some a := by
  rw [← h]
  refine scan_scan enc1 (fun c => [c]) _ _ _ _ (fun u r => ?_) (fun c r hc => ?_) l.length l a (Nat.le_refl _) h
  · rw [scan_enc1]
    by_cases hu : plainB u = true <;> simp [hu, enc1]
  · exact scan_other _ _ c r hc

theorem scan_some_iff (f g f' g' : UInt8 → List UInt8) : ∀ (n : Nat) (l : List UInt8), l.length ≤ n → (scan f g l).isSome = (scan f' g' l).isSome := by
  intro n
  induction n with
  | zero =>
    intro l hl
    obtain rfl : l = [] := List.length_eq_zero_iff.1 (by omega)
    rfl
  | succ n ih =>
    intro l hl
    match l, hl with
    | [], _ => rfl
    | c :: r, hl =>
      by_cases hc : c = 37
      · subst hc
        match r, hl with
        | [], _ => rw [scan_short0, scan_short0]
        | [a], _ => rw [scan_short1, scan_short1]
        | a :: b :: r', hl =>
          cases ht : told a b with
          | none => rw [scan_bad f g a b r' ht, scan_bad f' g' a b r' ht]
          | some u => rw [scan_pct f g a b u r' ht, scan_pct f' g' a b u r' ht, Option.isSome_map, Option.isSome_map, ih r' (by simp at hl; omega)]
      · rw [scan_other f g c r hc, scan_other f' g' c r hc, Option.isSome_map, Option.isSome_map, ih r (by simp at hl; omega)]
theorem dec_of_norm {l a : List UInt8} (p : Bool) (h : norm l = some a) : ∃ x, dec p l = some x := by
  have := scan_some_iff enc1 (fun c => [c]) (fun u => [u]) (fun c => [plusB p c]) l.length l (Nat.le_refl _)
  rw [show scan enc1 (fun c => [c]) l = some a from h] at this
  exact Option.isSome_iff_exists.1 this.symm

/-- WHERE NO BYTE THAT IS NOT PLAIN STANDS AS ITSELF Normal is what Encode writes. -/
theorem norm_only : ∀ (n : Nat) (l x : List UInt8), l.length ≤ n → l.all okB = true → dec false l = some x → norm l = some (enc x) := by
  intro n
  induction n with
  | zero =>
    intro l x hl _ h
    obtain rfl : l = [] := List.length_eq_zero_iff.1 (by omega)
    cases h
    rfl
  | succ n ih =>
    intro l x hl ha h
    unfold dec norm at *
    match l, hl, ha, h with
    | [], _, _, h => rw [scan_nil] at h; cases h; rfl
    | c :: r, hl, ha, h =>
      by_cases hc : c = 37
      · subst hc
        match r, hl, ha, h with
        | [], _, _, h => rw [scan_short0] at h; cases h
        | [a], _, _, h => rw [scan_short1] at h; cases h
        | a :: b :: r', hl, ha, h =>
          cases ht : told a b with
          | none => rw [scan_bad _ _ a b r' ht] at h; cases h
          | some u =>
            rw [scan_pct _ _ a b u r' ht, Option.map_eq_some_iff] at h
            obtain ⟨o', ho, rfl⟩ := h
            rw [scan_pct _ _ a b u r' ht, ih r' o' (by simp at hl; omega) (by simp only [List.all_cons, Bool.and_eq_true] at ha; exact ha.2.2.2) ho]
            simp [enc_cons]
      · rw [scan_other _ _ c r hc, Option.map_eq_some_iff] at h
        obtain ⟨o', ho, rfl⟩ := h
        have hp : plainB c = true := by
          simp only [List.all_cons, Bool.and_eq_true] at ha
          have := ha.1
          unfold okB at this
          simpa [hc] using this
        rw [scan_other _ _ c r hc, ih r o' (by simp at hl; omega) (by simp only [List.all_cons, Bool.and_eq_true] at ha; exact ha.2) ho]
        simp [plusB, enc_cons, enc1, hp]

theorem normal_law {s t a b x z : List UInt8} (hs : s.all okB = true) (ht : t.all okB = true) (ha : norm s = some a) (hb : norm t = some b) (hx : dec false s = some x) (hz : dec false t = some z) : (a = b) ↔ (x = z) := by
  rw [norm_only _ s x (Nat.le_refl _) hs hx] at ha
  rw [norm_only _ t z (Nat.le_refl _) ht hz] at hb
  cases ha
  cases hb
  exact ⟨fun h => enc_inj h, fun h => by rw [h]⟩

end Pct
end Go.Proofs.YtfeaonbeklmfgaaGreatDoor
