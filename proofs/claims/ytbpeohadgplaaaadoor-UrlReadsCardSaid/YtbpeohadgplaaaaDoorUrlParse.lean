/- Plain functions that read and write URLs, and that they go back and forth; no program stands in it. No condition. -/
import Derived.Test.YtbpeohadgplaaaaDoorUrlPure
namespace Go.Proofs.YtbpeohadgplaaaaDoor
set_option maxRecDepth 8000
namespace Url
open Pct

structure U where
  scheme : Bytes
  host : Bytes
  port : Nat
  path : Bytes
  query : Bytes
  ask : Bool

def http : Bytes := [104, 116, 116, 112]
def https : Bytes := [104, 116, 116, 112, 115]
def sep : Bytes := [58, 47, 47]
def lower (c : UInt8) : UInt8 := if 65 ≤ c.toNat ∧ c.toNat ≤ 90 then UInt8.ofNat (c.toNat + 32) else c
def small (l : Bytes) : Bytes := l.map lower
def schemeOf (l : Bytes) : Option (Bytes × Bytes) :=
  if small (l.take 7) = http ++ sep then some (http, l.drop 7) else if small (l.take 8) = https ++ sep then some (https, l.drop 8) else none

def noDelim (c : UInt8) : Bool := !(c == 47 || c == 63 || c == 35 || c == 58)
def noEnd (c : UInt8) : Bool := !(c == 47 || c == 63 || c == 35)
def notQ (c : UInt8) : Bool := !(c == 63)
def hostB (c : UInt8) : Bool := decide (97 ≤ c.toNat ∧ c.toNat ≤ 122 ∨ 48 ≤ c.toNat ∧ c.toNat ≤ 57 ∨ c.toNat = 45 ∨ c.toNat = 46)
def digB (c : UInt8) : Bool := decide (48 ≤ c.toNat ∧ c.toNat ≤ 57)
def val (d : Bytes) : Nat := d.foldl (fun n c => 10 * n + (c.toNat - 48)) 0
def portOf (d : Bytes) : Option Nat := if d.all digB = true ∧ d.headD 48 ≠ 48 ∧ val d ≤ 65535 then some (val d) else none
def dfl (sc : Bytes) (n : Nat) : Nat := if sc = http ∧ n = 80 ∨ sc = https ∧ n = 443 then 0 else n
def portPart (sc r : Bytes) : Option (Nat × Bytes) :=
  match r with
  | [] => some (0, [])
  | c :: t => if c = 58 then (portOf (t.takeWhile noEnd)).map fun n => (dfl sc n, t.dropWhile noEnd) else some (0, c :: t)

def okB2 (c : UInt8) : Bool := decide (33 ≤ c.toNat ∧ c.toNat ≤ 126) && !(c == 34 || c == 60 || c == 62 || c == 35 || c == 92 || c == 94 || c == 123 || c == 124 || c == 125 || c == 96)
def part (l : Bytes) : Option Bytes := if l.all okB2 = true then norm l else none
def pathOf (p : Bytes) : Bytes := if p = [] then [47] else dots p
def tail3 (sc host : Bytes) (port : Nat) (r : Bytes) : Except Nat U :=
  match part (r.takeWhile notQ) with
  | none => .error 15
  | some p =>
    match r.dropWhile notQ with
    | [] => .ok ⟨sc, host, port, pathOf p, [], false⟩
    | _ :: q =>
      match part q with
      | none => .error 15
      | some q' => .ok ⟨sc, host, port, pathOf p, q', true⟩
def parse (l : Bytes) : Except Nat U :=
  if 2000 < l.length then .error 2
  else match schemeOf l with
    | none => .error 12
    | some (sc, r) =>
      if r.takeWhile noDelim = [] ∨ 64 < (r.takeWhile noDelim).length ∨ (small (r.takeWhile noDelim)).all hostB = false then .error 13
      else match portPart sc (r.dropWhile noDelim) with
        | none => .error 14
        | some (n, r2) => tail3 sc (small (r.takeWhile noDelim)) n r2

def digitsF : Nat → Nat → Bytes
  | 0, n => [UInt8.ofNat (48 + n % 10)]
  | f + 1, n => if n ≤ 9 then [UInt8.ofNat (48 + n)] else digitsF f (n / 10) ++ [UInt8.ofNat (48 + n % 10)]
def digits (n : Nat) : Bytes := digitsF n n

def origin (u : U) : Bytes := u.scheme ++ (sep ++ (u.host ++ if u.port = 0 then [] else 58 :: digits u.port))
def str (u : U) : Bytes := origin u ++ (u.path ++ if u.ask = true then 63 :: u.query else [])

/-! ### Digits -/
theorem val_snoc (d : Bytes) (c : UInt8) : val (d ++ [c]) = 10 * val d + (c.toNat - 48) := by simp [val]
theorem dig_of (n : Nat) (h : n ≤ 9) : (UInt8.ofNat (48 + n)).toNat = 48 + n := by simp; omega
theorem digitsF_spec : ∀ (f n : Nat), n ≤ f → (digitsF f n).all digB = true ∧ val (digitsF f n) = n ∧ (1 ≤ n → (digitsF f n).headD 48 ≠ 48) ∧ digitsF f n ≠ []
  | 0, n, h => by
    obtain rfl : n = 0 := by omega
    exact ⟨by decide, by decide, fun h => absurd h (by omega), by decide⟩
  | f + 1, n, h => by
    unfold digitsF
    by_cases h9 : n ≤ 9
    · rw [if_pos h9]
      have e := dig_of n h9
      refine ⟨?_, ?_, ?_, by simp⟩
      · simp only [List.all_cons, List.all_nil, Bool.and_true, digB, e]
        simp
        omega
      · simp only [val, List.foldl_cons, List.foldl_nil, e]
        omega
      · intro h1 hh
        simp only [List.headD_cons] at hh
        have := congrArg UInt8.toNat hh
        rw [e] at this
        have : (48 : UInt8).toNat = 48 := rfl
        omega
    · rw [if_neg h9]
      obtain ⟨i1, i2, i3, i4⟩ := digitsF_spec f (n / 10) (by omega)
      have e := dig_of (n % 10) (by omega)
      refine ⟨?_, ?_, ?_, by simp⟩
      · rw [List.all_append, i1]
        simp only [List.all_cons, List.all_nil, Bool.and_true, digB, e]
        simp
        omega
      · rw [val_snoc, i2, e]
        omega
      · intro _
        have : (digitsF f (n / 10) ++ [UInt8.ofNat (48 + n % 10)]).headD 48 = (digitsF f (n / 10)).headD 48 := by
          cases hd : digitsF f (n / 10) with
          | nil => exact absurd hd i4
          | cons a b => rfl
        rw [this]
        exact i3 (by omega)
theorem digits_port (n : Nat) (h1 : 1 ≤ n) (h2 : n ≤ 65535) : portOf (digits n) = some n := by
  obtain ⟨i1, i2, i3, _⟩ := digitsF_spec n n (Nat.le_refl _)
  unfold portOf digits
  rw [if_pos ⟨i1, i3 h1, by rw [i2]; exact h2⟩, i2]
theorem digitsF_len : ∀ (f n : Nat), (digitsF f n).length ≤ f + 1
  | 0, n => by simp [digitsF]
  | f + 1, n => by
    unfold digitsF
    split
    · simp
    · have := digitsF_len f (n / 10)
      simp
      omega

/-! ### Bytes -/
theorem byte_all {P : UInt8 → Bool} (h : ∀ n : Nat, n < 256 → P (UInt8.ofNat n) = true) (c : UInt8) : P c = true := by
  have := h c.toNat (u8_lt c)
  rwa [UInt8.ofNat_toNat] at this
theorem host_facts (c : UInt8) : (hostB c → noDelim c = true ∧ lower c = c) := by
  have := byte_all (P := fun c => !hostB c || (noDelim c && (lower c == c))) (by decide +kernel) c
  intro h
  rw [h] at this
  simpa using this
theorem host_lower (c : UInt8) : hostB (lower c) = true → noDelim c = true := by
  have := byte_all (P := fun c => !hostB (lower c) || noDelim c) (by decide +kernel) c
  intro h
  rw [h] at this
  simpa using this
theorem dig_facts (c : UInt8) : digB c = true → noEnd c = true := by
  have := byte_all (P := fun c => !digB c || noEnd c) (by decide +kernel) c
  intro h
  rw [h] at this
  simpa using this
theorem plain_ok (c : UInt8) : plainB c = true → okB2 c = true := by
  have := byte_all (P := fun c => !plainB c || okB2 c) (by decide +kernel) c
  intro h
  rw [h] at this
  simpa using this

/-! ### Up to a byte -/
theorem takeWhile_stop (p : UInt8 → Bool) : ∀ (a b : Bytes), a.all p = true → (∀ c r, b = c :: r → p c = false) → (a ++ b).takeWhile p = a ∧ (a ++ b).dropWhile p = b
  | [], b, _, hb => by
    cases b with
    | nil => exact ⟨rfl, rfl⟩
    | cons c r =>
      have := hb c r rfl
      exact ⟨by simp [this], by simp [this]⟩
  | x :: a, b, ha, hb => by
    rw [List.all_cons, Bool.and_eq_true] at ha
    have ih := takeWhile_stop p a b ha.2 hb
    exact ⟨by simp [ha.1, ih.1], by simp [ha.1, ih.2]⟩
theorem dropWhile_head (p : UInt8 → Bool) : ∀ (l : Bytes) (c : UInt8) (r : Bytes), l.dropWhile p = c :: r → p c = false
  | [], c, r, h => by simp at h
  | x :: l, c, r, h => by
    by_cases hx : p x = true
    · rw [List.dropWhile_cons_of_pos hx] at h
      exact dropWhile_head p l c r h
    · rw [List.dropWhile_cons_of_neg hx] at h
      injection h with h1 _
      rw [← h1]
      simpa using hx
theorem takeWhile_all (p : UInt8 → Bool) : ∀ l : Bytes, (l.takeWhile p).all p = true
  | [] => rfl
  | x :: l => by
    by_cases hx : p x = true
    · rw [List.takeWhile_cons_of_pos hx, List.all_cons, hx, takeWhile_all p l]
      rfl
    · rw [List.takeWhile_cons_of_neg hx]
      rfl
theorem takeWhile_len (p : UInt8 → Bool) (l : Bytes) : (l.takeWhile p).length ≤ l.length := (List.takeWhile_sublist p).length_le
theorem dropWhile_len (p : UInt8 → Bool) (l : Bytes) : (l.dropWhile p).length ≤ l.length := (List.dropWhile_sublist p).length_le

/-! ### A URL that can be -/
structure Good (u : U) : Prop where
  scheme : u.scheme = http ∨ u.scheme = https
  host0 : u.host ≠ []
  host64 : u.host.length ≤ 64
  hostB : u.host.all hostB = true
  port : u.port ≤ 65535 ∧ (u.port ≠ 0 → dfl u.scheme u.port = u.port)
  clean : Clean u.path
  pathB : u.path.all okB2 = true
  pathQ : u.path.all notQ = true
  pathN : Nrm u.path
  queryB : u.query.all okB2 = true
  queryN : Nrm u.query
  ask : u.ask = false → u.query = []

theorem small_host {h : Bytes} (hh : h.all hostB = true) : small h = h := by
  unfold small
  have : h.map lower = h.map id := List.map_congr_left fun c hc => (host_facts c (List.all_eq_true.1 hh c hc)).2
  rw [this]
  simp
theorem all_imp {p q : UInt8 → Bool} (h : ∀ c, p c = true → q c = true) {l : Bytes} (hl : l.all p = true) : l.all q = true := by
  rw [List.all_eq_true] at hl ⊢
  exact fun c hc => h c (hl c hc)

theorem part_of {l : Bytes} (h1 : l.all okB2 = true) (h2 : Nrm l) : part l = some l := by
  unfold part
  rw [if_pos h1]
  exact h2

theorem tail3_str {u : U} (g : Good u) : tail3 u.scheme u.host u.port (u.path ++ if u.ask = true then 63 :: u.query else []) = .ok u := by
  have hb : ∀ c r, (if u.ask = true then 63 :: u.query else []) = c :: r → notQ c = false := by
    intro c r h
    by_cases ha : u.ask = true
    · rw [if_pos ha] at h
      injection h with h1 _
      rw [← h1]
      rfl
    · rw [if_neg ha] at h
      cases h
  obtain ⟨e1, e2⟩ := takeWhile_stop notQ u.path _ g.pathQ hb
  unfold tail3
  rw [e1, e2, part_of g.pathB g.pathN]
  have hp : pathOf u.path = u.path := by
    unfold pathOf
    obtain ⟨t, ht, _⟩ := id g.clean
    rw [if_neg (by rw [ht]; simp)]
    exact dots_of_clean g.clean
  by_cases ha : u.ask = true
  · simp only [if_pos ha, part_of g.queryB g.queryN, hp]
    rw [← ha]
  · have ha' : u.ask = false := by simpa using ha
    simp only [if_neg ha, hp]
    have := g.ask ha'
    cases u
    simp_all

theorem path_head {u : U} (g : Good u) : ∃ t, u.path = 47 :: t := by
  obtain ⟨t, ht, _⟩ := id g.clean
  exact ⟨t, ht⟩

theorem rest_port {u : U} (g : Good u) : portPart u.scheme ((if u.port = 0 then [] else 58 :: digits u.port) ++ (u.path ++ if u.ask = true then 63 :: u.query else [])) = some (u.port, u.path ++ if u.ask = true then 63 :: u.query else []) := by
  obtain ⟨t, ht⟩ := path_head g
  by_cases hp : u.port = 0
  · rw [if_pos hp, List.nil_append, ht, hp]
    rfl
  · rw [if_neg hp]
    have hd := digits_port u.port (by omega) g.port.1
    obtain ⟨i1, _, _, _⟩ := digitsF_spec u.port u.port (Nat.le_refl _)
    have hs := takeWhile_stop noEnd (digits u.port) (u.path ++ if u.ask = true then 63 :: u.query else []) (all_imp dig_facts i1) (by
      intro c r h
      rw [ht] at h
      injection h with h1 _
      rw [← h1]
      rfl)
    rw [List.cons_append]
    unfold portPart
    simp only [if_true]
    rw [hs.1, hs.2, hd]
    simp only [Option.map_some]
    rw [g.port.2 hp]

/-- WHAT IS WRITTEN IS READ AS IT WAS. -/
theorem parse_str {u : U} (g : Good u) (hl : (str u).length ≤ 2000) : parse (str u) = .ok u := by
  have hsc : schemeOf (str u) = some (u.scheme, u.host ++ ((if u.port = 0 then [] else 58 :: digits u.port) ++ (u.path ++ if u.ask = true then 63 :: u.query else []))) := by
    unfold str origin schemeOf
    rcases g.scheme with h | h
    · rw [h]
      simp only [List.append_assoc]
      rw [if_pos (by rfl)]
      rfl
    · rw [h]
      simp only [List.append_assoc]
      rw [if_neg (by
        show ¬ small ([104, 116, 116, 112, 115, 58, 47] : Bytes) = http ++ sep
        decide), if_pos (by rfl)]
      rfl
  unfold parse
  rw [if_neg (by omega), hsc]
  simp only
  obtain ⟨t, ht⟩ := path_head g
  have hs := takeWhile_stop noDelim u.host ((if u.port = 0 then [] else 58 :: digits u.port) ++ (u.path ++ if u.ask = true then 63 :: u.query else [])) (all_imp (fun c hc => (host_facts c hc).1) g.hostB) (by
    intro c r h
    by_cases hp : u.port = 0
    · rw [if_pos hp, List.nil_append, ht] at h
      injection h with h1 _
      rw [← h1]
      rfl
    · rw [if_neg hp] at h
      injection h with h1 _
      rw [← h1]
      rfl)
  rw [hs.1, hs.2, small_host g.hostB, if_neg (by
    have := g.host0
    have := g.host64
    have := g.hostB
    simp_all), rest_port g]
  exact tail3_str g
end Url
end Go.Proofs.YtbpeohadgplaaaaDoor
