/- Plain functions on lists of bytes (names of tickets: their prefixes and digits, what a text is the name of, and which names lie within one) and what follows of them; no program stands in it. No condition. -/
import Derived.Test.YtfeaonbeklmfgaaGreatDoorForms
namespace Go.Proofs.YtfeaonbeklmfgaaGreatDoor
set_option maxRecDepth 8000
namespace Tk

abbrev Bytes := List UInt8

def pre : Nat → Bytes
  | 1 => [84, 71, 84]
  | 2 => [83, 84]
  | 3 => [80, 84]
  | 4 => [80, 71, 84]
  | 5 => [80, 71, 84, 73, 79, 85]
  | 6 => [76, 84]
  | _ => []

def hx (d : Nat) : UInt8 := UInt8.ofNat (if d < 10 then 48 + d else 87 + d)
def isHx (c : UInt8) : Bool := decide (48 ≤ c.toNat ∧ c.toNat ≤ 57 ∨ 97 ≤ c.toNat ∧ c.toNat ≤ 102)
def val (c : UInt8) : Nat := if c.toNat ≤ 57 then c.toNat - 48 else c.toNat - 87
def read (l : Bytes) : Nat := l.foldl (fun a c => 16 * a + val c) 0

/-- The last k digits of a number. -/
def dig : Nat → Nat → Bytes
  | 0, _ => []
  | k + 1, n => dig k (n / 16) ++ [hx (n % 16)]
def num (n : Nat) : Bytes := dig 16 n
def name (k n : Nat) : Bytes := pre k ++ 45 :: num n

theorem hx_all : ∀ d : Nat, d < 16 → isHx (hx d) = true ∧ val (hx d) = d := by decide +kernel
theorem hx_val_all : ∀ n : Nat, n < 256 → isHx (UInt8.ofNat n) = true → val (UInt8.ofNat n) < 16 ∧ hx (val (UInt8.ofNat n)) = UInt8.ofNat n := by decide +kernel
theorem hx_val (c : UInt8) (h : isHx c = true) : val c < 16 ∧ hx (val c) = c := by
  have := hx_val_all c.toNat c.toNat_lt
  rw [UInt8.ofNat_toNat] at this
  exact this h

theorem dig_len : ∀ k n : Nat, (dig k n).length = k
  | 0, _ => rfl
  | k + 1, n => by rw [dig, List.length_append, dig_len k]; rfl
theorem dig_hx : ∀ k n : Nat, (dig k n).all isHx = true
  | 0, _ => rfl
  | k + 1, n => by rw [dig, List.all_append, dig_hx k]; simp [(hx_all (n % 16) (by omega)).1]
theorem read_snoc (l : Bytes) (c : UInt8) : read (l ++ [c]) = 16 * read l + val c := by simp [read]
theorem read_dig : ∀ k n : Nat, n < 16 ^ k → read (dig k n) = n
  | 0, n, h => by simp at h; subst h; rfl
  | k + 1, n, h => by
    have h' : n / 16 < 16 ^ k := by rw [Nat.pow_succ] at h; omega
    rw [dig, read_snoc, read_dig k _ h', (hx_all (n % 16) (by omega)).2]
    omega
theorem read_num {n : Nat} (h : n < 18446744073709551616) : read (num n) = n := read_dig 16 n (by omega)
theorem num_len (n : Nat) : (num n).length = 16 := dig_len 16 n
theorem num_hx (n : Nat) : (num n).all isHx = true := dig_hx 16 n
theorem num_inj {n m : Nat} (hn : n < 18446744073709551616) (hm : m < 18446744073709551616) (h : num n = num m) : n = m := by
  rw [← read_num hn, h, read_num hm]
theorem snoc_cases {α : Type} (l : List α) (k : Nat) (h : l.length = k + 1) : ∃ a c, l = a ++ [c] ∧ a.length = k := by
  have hne : l ≠ [] := by intro h0; subst h0; simp at h
  exact ⟨l.dropLast, l.getLast hne, (List.dropLast_concat_getLast hne).symm, by simp [h]⟩
theorem read_lt : ∀ (k : Nat) (l : Bytes), l.length = k → l.all isHx = true → read l < 16 ^ k
  | 0, l, h, _ => by obtain rfl := List.length_eq_zero_iff.1 h; decide
  | k + 1, l, h, ha => by
    obtain ⟨a, c, rfl, hl⟩ := snoc_cases l k h
    rw [List.all_append, Bool.and_eq_true] at ha
    have h1 := read_lt k a hl ha.1
    have h2 := (hx_val c (by simpa using ha.2)).1
    rw [read_snoc, Nat.pow_succ]
    omega
theorem dig_read : ∀ (k : Nat) (l : Bytes), l.length = k → l.all isHx = true → dig k (read l) = l
  | 0, l, h, _ => by obtain rfl := List.length_eq_zero_iff.1 h; rfl
  | k + 1, l, h, ha => by
    obtain ⟨a, c, rfl, hl⟩ := snoc_cases l k h
    rw [List.all_append, Bool.and_eq_true] at ha
    have h2 := hx_val c (by simpa using ha.2)
    rw [read_snoc, dig, show (16 * read a + val c) / 16 = read a by omega, show (16 * read a + val c) % 16 = val c by omega, dig_read k a hl ha.1, h2.2]
theorem num_read {l : Bytes} (h : l.length = 16) (ha : l.all isHx = true) : read l < 18446744073709551616 ∧ num (read l) = l :=
  ⟨by have := read_lt 16 l h ha; omega, dig_read 16 l h ha⟩

/-! The digits of a number without 0s ahead of them. -/
def hexs (n : Nat) : Bytes := if n < 16 then [hx n] else hexs (n / 16) ++ [hx (n % 16)]
termination_by n
decreasing_by omega
theorem dig_zero : ∀ k : Nat, dig k 0 = List.replicate k 48
  | 0 => rfl
  | k + 1 => by rw [dig, Nat.zero_div, dig_zero k, List.replicate_succ']; rfl
theorem hexs_len : ∀ (k n : Nat), 1 ≤ k → n < 16 ^ k → (hexs n).length ≤ k ∧ 1 ≤ (hexs n).length
  | 0, _, h, _ => by omega
  | k + 1, n, _, h => by
    rw [hexs]
    split
    · simp
    · have hk : 1 ≤ k := by
        cases k with
        | zero => simp at h; omega
        | succ k => omega
      have := hexs_len k (n / 16) hk (by rw [Nat.pow_succ] at h; omega)
      simp
      omega
theorem dig_hexs : ∀ (k n : Nat), 1 ≤ k → n < 16 ^ k → List.replicate (k - (hexs n).length) 48 ++ hexs n = dig k n
  | 0, _, h, _ => by omega
  | k + 1, n, _, h => by
    rw [hexs]
    split
    · rename_i hlt
      rw [dig, Nat.div_eq_of_lt hlt, Nat.mod_eq_of_lt hlt, dig_zero]
      simp
    · have hk : 1 ≤ k := by
        cases k with
        | zero => simp at h; omega
        | succ k => omega
      have hlt : n / 16 < 16 ^ k := by rw [Nat.pow_succ] at h; omega
      rw [dig, ← dig_hexs k (n / 16) hk hlt, List.length_append]
      simp
theorem num_hexs {n : Nat} (h : n < 18446744073709551616) : List.replicate (16 - (hexs n).length) 48 ++ hexs n = num n := dig_hexs 16 n (by omega) (by omega)
theorem hexs_len16 {n : Nat} (h : n < 18446744073709551616) : (hexs n).length ≤ 16 ∧ 1 ≤ (hexs n).length := hexs_len 16 n (by omega) (by omega)

/-! Names. -/
structure IsName (s : Bytes) (k n : Nat) : Prop where
  lo : 1 ≤ k
  hi : k ≤ 6
  lt : n < 18446744073709551616
  eq : s = name k n
theorem split_dash : ∀ (a b x y : Bytes), (45 : UInt8) ∉ a → (45 : UInt8) ∉ b → a ++ 45 :: x = b ++ 45 :: y → a = b ∧ x = y
  | [], [], x, y, _, _, h => by simpa using h
  | [], c :: b, x, y, _, hb, h => by
    simp only [List.nil_append, List.cons_append, List.cons.injEq] at h
    exact absurd (h.1 ▸ List.mem_cons_self) hb
  | c :: a, [], x, y, ha, _, h => by
    simp only [List.nil_append, List.cons_append, List.cons.injEq] at h
    exact absurd (h.1 ▸ List.mem_cons_self) ha
  | c :: a, d :: b, x, y, ha, hb, h => by
    simp only [List.cons_append, List.cons.injEq] at h
    obtain ⟨h1, h2⟩ := split_dash a b x y (fun m => ha (List.mem_cons_of_mem _ m)) (fun m => hb (List.mem_cons_of_mem _ m)) h.2
    exact ⟨by rw [h.1, h1], h2⟩
theorem pre_facts : ∀ k : Nat, k < 7 → (45 : UInt8) ∉ pre k ∧ (1 ≤ k → 2 ≤ (pre k).length ∧ (pre k).length ≤ 6) := by decide
theorem pre_dash (k : Nat) : (45 : UInt8) ∉ pre k := by
  by_cases h : k < 7
  · exact (pre_facts k h).1
  · have : pre k = [] := by
      unfold pre
      split <;> first | omega | rfl
    rw [this]; simp
theorem pre_inj_all : ∀ k : Nat, k < 7 → ∀ l : Nat, l < 7 → 1 ≤ k → pre k = pre l → k = l := by decide
theorem name_inj {k l n m : Nat} (hk1 : 1 ≤ k) (hk : k ≤ 6) (hl : l ≤ 6) (hn : n < 18446744073709551616) (hm : m < 18446744073709551616) (h : name k n = name l m) : k = l ∧ n = m := by
  obtain ⟨h1, h2⟩ := split_dash _ _ _ _ (pre_dash k) (pre_dash l) h
  exact ⟨pre_inj_all k (by omega) l (by omega) hk1 h1, num_inj hn hm h2⟩
theorem IsName.same {s : Bytes} {k n l m : Nat} (h : IsName s k n) (g : IsName s l m) : k = l ∧ n = m := name_inj h.lo h.hi g.hi h.lt g.lt (h.eq ▸ g.eq)
theorem name_len (k n : Nat) : (name k n).length = (pre k).length + 17 := by simp [name, num_len]

/-! Which names lie within a text. -/
def isPre (x : Bytes) : Bool := decide (x = pre 1 ∨ x = pre 2 ∨ x = pre 3 ∨ x = pre 4 ∨ x = pre 5 ∨ x = pre 6)
theorem isPre_iff (x : Bytes) : isPre x = true ↔ ∃ k, 1 ≤ k ∧ k ≤ 6 ∧ x = pre k := by
  unfold isPre
  rw [decide_eq_true_iff]
  constructor
  · rintro (h | h | h | h | h | h)
    · exact ⟨1, by omega, by omega, h⟩
    · exact ⟨2, by omega, by omega, h⟩
    · exact ⟨3, by omega, by omega, h⟩
    · exact ⟨4, by omega, by omega, h⟩
    · exact ⟨5, by omega, by omega, h⟩
    · exact ⟨6, by omega, by omega, h⟩
  · rintro ⟨k, h1, h2, rfl⟩
    have : k = 1 ∨ k = 2 ∨ k = 3 ∨ k = 4 ∨ k = 5 ∨ k = 6 := by omega
    rcases this with rfl | rfl | rfl | rfl | rfl | rfl <;> simp
def hexes (r : Bytes) : Bool := decide ((r.take 16).length = 16) && (r.take 16).all isHx
theorem hexes_iff (r : Bytes) : hexes r = true ↔ ∃ n, n < 18446744073709551616 ∧ r.take 16 = num n := by
  unfold hexes
  rw [Bool.and_eq_true, decide_eq_true_iff]
  constructor
  · rintro ⟨h1, h2⟩
    have := num_read h1 h2
    exact ⟨_, this.1, this.2.symm⟩
  · rintro ⟨n, _, h⟩
    rw [h]
    exact ⟨num_len n, num_hx n⟩
/-- The name that a text begins with. -/
def headName (s : Bytes) : Option Bytes :=
  if (Pct.cutAt 45 s).2.2 && isPre (Pct.cutAt 45 s).1 && hexes (Pct.cutAt 45 s).2.1 then some ((Pct.cutAt 45 s).1 ++ 45 :: (Pct.cutAt 45 s).2.1.take 16) else none
def find : Bytes → List Bytes
  | [] => []
  | c :: r => (headName (c :: r)).toList ++ find r

theorem cutAt_dash : ∀ (x r : Bytes), (45 : UInt8) ∉ x → Pct.cutAt 45 (x ++ 45 :: r) = (x, r, true)
  | [], r, _ => Pct.cutAt_hit 45 r
  | c :: x, r, h => by
    have hc : c ≠ 45 := fun e => h (e ▸ List.mem_cons_self)
    rw [List.cons_append, Pct.cutAt_other 45 c _ hc, cutAt_dash x r (fun m => h (List.mem_cons_of_mem _ m))]
theorem cutAt_none : ∀ x : Bytes, (45 : UInt8) ∉ x → Pct.cutAt 45 x = (x, [], false)
  | [], _ => rfl
  | c :: x, h => by
    have hc : c ≠ 45 := fun e => h (e ▸ List.mem_cons_self)
    rw [Pct.cutAt_other 45 c _ hc, cutAt_none x (fun m => h (List.mem_cons_of_mem _ m))]
theorem cut_cases : ∀ s : Bytes, (45 : UInt8) ∉ s ∨ ∃ x r, (45 : UInt8) ∉ x ∧ s = x ++ 45 :: r
  | [] => .inl (by simp)
  | c :: s => by
    by_cases hc : c = 45
    · exact .inr ⟨[], s, by simp, by rw [hc]; rfl⟩
    · rcases cut_cases s with h | ⟨x, r, h, e⟩
      · exact .inl (by simp only [List.mem_cons, not_or]; exact ⟨fun e => hc e.symm, h⟩)
      · exact .inr ⟨c :: x, r, by simp only [List.mem_cons, not_or]; exact ⟨fun e => hc e.symm, h⟩, by rw [e]; rfl⟩
theorem headName_none {x : Bytes} (h : (45 : UInt8) ∉ x) : headName x = none := by
  unfold headName
  rw [cutAt_none x h]
  rfl
theorem headName_dash {x r : Bytes} (h : (45 : UInt8) ∉ x) : headName (x ++ 45 :: r) = if isPre x && hexes r then some (x ++ 45 :: r.take 16) else none := by
  unfold headName
  rw [cutAt_dash x r h]
  simp only [Bool.true_and]
theorem find_none : ∀ x : Bytes, (45 : UInt8) ∉ x → find x = []
  | [], _ => rfl
  | c :: x, h => by rw [find, headName_none h, find_none x (fun m => h (List.mem_cons_of_mem _ m))]; rfl

/-- What stands at the end of a text: the kind whose prefix it ends with, or 0. -/
def ending (h : Bytes) : Nat :=
  if (pre 1).isSuffixOf h then 1 else if (pre 2).isSuffixOf h then 2 else if (pre 3).isSuffixOf h then 3 else if (pre 4).isSuffixOf h then 4 else if (pre 5).isSuffixOf h then 5 else if (pre 6).isSuffixOf h then 6 else 0
def hit (h r : Bytes) : List Bytes := if ending h ≠ 0 ∧ hexes r = true then [pre (ending h) ++ 45 :: r.take 16] else []
theorem ending_le (h : Bytes) : ending h ≤ 6 := by
  unfold ending
  repeat' split
  all_goals omega
theorem suffix_cons (p : Bytes) (c : UInt8) (h : Bytes) : p.isSuffixOf (c :: h) = (decide (p = c :: h) || p.isSuffixOf h) := by
  rw [Bool.eq_iff_iff]
  simp only [List.isSuffixOf_iff_suffix, Bool.or_eq_true, decide_eq_true_iff]
  exact List.suffix_cons_iff
theorem ending_pre : ∀ k : Nat, k < 7 → 1 ≤ k → ending (pre k) = k ∧ ending (pre k).tail = 0 := by decide
theorem ending_cons_pre {k : Nat} {c : UInt8} {x : Bytes} (h1 : 1 ≤ k) (h6 : k ≤ 6) (h : c :: x = pre k) : ending (c :: x) = k ∧ ending x = 0 := by
  have := ending_pre k (by omega) h1
  rw [← h] at this
  exact this
theorem ending_cons {c : UInt8} {x : Bytes} (h : isPre (c :: x) = false) : ending (c :: x) = ending x := by
  have key : ∀ k, 1 ≤ k → k ≤ 6 → (pre k).isSuffixOf (c :: x) = (pre k).isSuffixOf x := by
    intro k h1 h6
    rw [suffix_cons]
    have : decide (pre k = c :: x) = false := by
      rw [decide_eq_false_iff_not]
      intro e
      have := (isPre_iff (c :: x)).2 ⟨k, h1, h6, e.symm⟩
      rw [h] at this
      cases this
    rw [this, Bool.false_or]
  unfold ending
  rw [key 1 (by omega) (by omega), key 2 (by omega) (by omega), key 3 (by omega) (by omega), key 4 (by omega) (by omega), key 5 (by omega) (by omega), key 6 (by omega) (by omega)]

theorem find_dash : ∀ (x r : Bytes), (45 : UInt8) ∉ x → find (x ++ 45 :: r) = hit x r ++ find r
  | [], r, h => by
    rw [List.nil_append, find]
    have := headName_dash (r := r) h
    rw [List.nil_append] at this
    rw [this]
    rfl
  | c :: x, r, h => by
    rw [List.cons_append, find, find_dash x r (fun m => h (List.mem_cons_of_mem _ m)), ← List.cons_append, headName_dash h]
    by_cases hp : isPre (c :: x) = true
    · obtain ⟨k, h1, h6, e⟩ := (isPre_iff _).1 hp
      obtain ⟨e1, e2⟩ := ending_cons_pre h1 h6 e
      rw [hp]
      unfold hit
      rw [e1, e2]
      by_cases hr : hexes r = true
      · have : k ≠ 0 := by omega
        simp [hr, this, e]
      · simp [hr]
    · have hp' : isPre (c :: x) = false := by simpa using hp
      rw [hp']
      unfold hit
      rw [ending_cons hp']
      simp

/-! What stands at the beginning of a text that goes on. -/
theorem headName_of {u : Bytes} {k n m : Nat} (h : IsName (u.take m) k n) : headName u = some (name k n) ∧ (u.take m).length = (name k n).length := by
  have hu : u = pre k ++ 45 :: (num n ++ u.drop m) := by
    conv => lhs; rw [← List.take_append_drop m u, h.eq]
    simp [name]
  refine ⟨?_, by rw [h.eq]⟩
  rw [hu, headName_dash (pre_dash k), (isPre_iff _).2 ⟨k, h.lo, h.hi, rfl⟩]
  have ht : (num n ++ u.drop m).take 16 = num n := by
    rw [List.take_append_of_le_length (by rw [num_len]; omega), List.take_of_length_le (by rw [num_len]; omega)]
  rw [(hexes_iff _).2 ⟨n, h.lt, ht⟩, ht]
  rfl
theorem headName_is {u x : Bytes} (h : headName u = some x) : ∃ k n, IsName x k n ∧ u = x ++ u.drop x.length := by
  rcases cut_cases u with hn | ⟨a, r, ha, rfl⟩
  · rw [headName_none hn] at h; cases h
  · rw [headName_dash ha] at h
    split at h
    · rename_i hc
      rw [Bool.and_eq_true] at hc
      obtain ⟨k, h1, h6, e⟩ := (isPre_iff _).1 hc.1
      obtain ⟨n, hn, e'⟩ := (hexes_iff _).1 hc.2
      cases h
      subst e
      rw [e']
      refine ⟨k, n, ⟨h1, h6, hn, rfl⟩, ?_⟩
      have hl : (pre k ++ 45 :: num n).length = (pre k).length + 1 + 16 := by simp [num_len]
      have hr : r = num n ++ r.drop 16 := by rw [← e', List.take_append_drop]
      conv => lhs; rw [hr]
      have hd : (pre k ++ 45 :: r).drop (pre k ++ 45 :: num n).length = r.drop 16 := by
        rw [hl, show (pre k).length + 1 + 16 = (pre k).length + (1 + 16) by omega, ← List.drop_drop, List.drop_left, ← List.drop_drop]
        rfl
      rw [hd]
      simp
    · cases h
/-- No name begins with a byte that is no great letter. -/
theorem headName_small {c : UInt8} {r : Bytes} (h : c.toNat < 65 ∨ 90 < c.toNat) : headName (c :: r) = none := by
  cases hh : headName (c :: r) with
  | none => rfl
  | some x =>
    obtain ⟨k, n, hn, e⟩ := headName_is hh
    exfalso
    have h2 := hn.eq
    have h1 := hn.lo
    have h6 := hn.hi
    have : k = 1 ∨ k = 2 ∨ k = 3 ∨ k = 4 ∨ k = 5 ∨ k = 6 := by omega
    rcases this with rfl | rfl | rfl | rfl | rfl | rfl <;>
      · rw [h2] at e
        simp only [name, pre, List.cons_append, List.cons.injEq] at e
        rw [e.1] at h
        revert h
        decide
theorem find_small : ∀ (d r : Bytes), (∀ c ∈ d, c.toNat < 65 ∨ 90 < c.toNat) → find (d ++ r) = find r
  | [], _, _ => rfl
  | c :: d, r, h => by
    rw [List.cons_append, find, headName_small (h c List.mem_cons_self), find_small d r (fun x hx => h x (List.mem_cons_of_mem _ hx))]
    rfl
theorem hx_small {c : UInt8} (h : isHx c = true) : c.toNat < 65 ∨ 90 < c.toNat := by
  unfold isHx at h
  have := of_decide_eq_true h
  omega
/-- A name, and what is found behind it. -/
theorem find_name {k n : Nat} (h1 : 1 ≤ k) (h6 : k ≤ 6) (hn : n < 18446744073709551616) (r : Bytes) : find (name k n ++ r) = name k n :: find r := by
  have e : name k n ++ r = pre k ++ 45 :: (num n ++ r) := by simp [name]
  have ht : (num n ++ r).take 16 = num n := by
    rw [List.take_append_of_le_length (by rw [num_len]; omega), List.take_of_length_le (by rw [num_len]; omega)]
  rw [e, find_dash _ _ (pre_dash k), find_small (num n) r (fun c hc => hx_small (List.all_eq_true.1 (num_hx n) c hc))]
  unfold hit
  rw [(ending_pre k (by omega) h1).1, ht, if_pos ⟨by omega, (hexes_iff _).2 ⟨n, hn, ht⟩⟩]
  rfl
/-- Where a text begins with a name one may go on behind it. -/
theorem find_skip {u x : Bytes} (h : headName u = some x) : find u = x :: find (u.drop x.length) := by
  obtain ⟨k, n, hn, e⟩ := headName_is h
  generalize u.drop x.length = r at e
  rw [e, hn.eq, find_name hn.lo hn.hi hn.lt]
/-- No name lies within another one. -/
theorem name_within {k l n m i : Nat} (hk : 1 ≤ k) (hk6 : k ≤ 6) (hl : 1 ≤ l) (hl6 : l ≤ 6) (hn : n < 18446744073709551616) (hm : m < 18446744073709551616) (hi : i + (name k n).length ≤ (name l m).length) (h : ((name l m).drop i).take (name k n).length = name k n) : k = l ∧ n = m := by
  have hI : IsName (((name l m).drop i).take (name k n).length) k n := ⟨hk, hk6, hn, h⟩
  have hh := (headName_of hI).1
  have hf := find_name hl hl6 hm []
  rw [List.append_nil] at hf
  have key : ∀ (j : Nat) (u : Bytes), j ≤ u.length → ∀ x, x ∈ find (u.drop j) → x ∈ find u := by
    intro j
    induction j with
    | zero => intro u _ x hx; exact hx
    | succ j ih =>
      intro u hj x hx
      cases u with
      | nil => simp at hj
      | cons c u =>
        rw [find]
        exact List.mem_append_right _ (ih u (by simpa using hj) x hx)
  have hmem : name k n ∈ find (name l m) := by
    refine key i _ (by omega) _ ?_
    rw [find_skip hh]
    exact List.mem_cons_self
  rw [hf] at hmem
  have : name k n = name l m := by simpa [find] using hmem
  exact name_inj hk hk6 hl6 hn hm this

end Tk
end Go.Proofs.YtfeaonbeklmfgaaGreatDoor
