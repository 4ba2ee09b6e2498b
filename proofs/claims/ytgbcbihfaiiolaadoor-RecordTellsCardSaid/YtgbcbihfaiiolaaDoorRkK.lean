/- What the document's Decode tells of bytes, plain, and that it is what the program's tells. No condition. -/
import Derived.Test.YtgbcbihfaiiolaaDoorRkP
namespace Go.Proofs.YtgbcbihfaiiolaaDoor
set_option maxRecDepth 8000
namespace Rk
open Tk (Bytes)

/-- Texts behind their lengths: so many, and what is left. -/
def texts : Nat → Bytes → Option (List Bytes × Bytes)
  | 0, r => some ([], r)
  | _ + 1, [] => none
  | k + 1, c :: r => if c.toNat ≤ r.length then (texts k (r.drop c.toNat)).map (fun x => (r.take c.toNat :: x.1, x.2)) else none
def one : Bytes → Option (Bytes × Bytes)
  | [] => none
  | c :: r => if c.toNat ≤ r.length then some (r.take c.toNat, r.drop c.toNat) else none
theorem texts_step : ∀ (k : Nat) (r : Bytes) (l : List Bytes) (q : Bytes), texts k r = some (l, q) → texts (k + 1) r = (one q).map (fun x => (l ++ [x.1], x.2))
  | 0, r, l, q, h => by
    simp only [texts, Option.some.injEq, Prod.mk.injEq] at h
    obtain ⟨rfl, rfl⟩ := h
    cases r with
    | nil => rfl
    | cons c r => by_cases hc : c.toNat ≤ r.length <;> simp [texts, one, hc]
  | k + 1, [], l, q, h => by simp [texts] at h
  | k + 1, c :: r, l, q, h => by
    unfold texts at h
    by_cases hc : c.toNat ≤ r.length
    · rw [if_pos hc] at h
      obtain ⟨⟨l', q'⟩, h1, h2⟩ := Option.map_eq_some_iff.1 h
      simp only [Prod.mk.injEq] at h2
      obtain ⟨rfl, rfl⟩ := h2
      have ih := texts_step k _ l' q' h1
      rw [texts, if_pos hc, ih]
      cases one q' <;> simp
    · rw [if_neg hc] at h
      cases h
theorem texts_none {k : Nat} {r : Bytes} (h : texts k r = none) : texts (k + 1) r = none := by
  induction k generalizing r with
  | zero => simp [texts] at h
  | succ k ih =>
    cases r with
    | nil => rfl
    | cons c r =>
      unfold texts at h ⊢
      by_cases hc : c.toNat ≤ r.length
      · rw [if_pos hc] at h ⊢
        rw [Option.map_eq_none_iff] at h ⊢
        exact ih h
      · rw [if_neg hc]
theorem texts_up {k n : Nat} {r : Bytes} (h : texts k r = none) (hn : k ≤ n) : texts n r = none := by
  obtain ⟨d, rfl⟩ : ∃ d, n = k + d := ⟨n - k, by omega⟩
  clear hn
  induction d with
  | zero => exact h
  | succ d ih => exact texts_none ih
theorem texts_txt (k : Nat) (s r : Bytes) (hs : s.length ≤ 255) : texts (k + 1) (txt s ++ r) = (texts k r).map (fun x => (s :: x.1, x.2)) := by
  have e : (UInt8.ofNat s.length).toNat = s.length := by rw [UInt8.toNat_ofNat']; omega
  show texts (k + 1) (UInt8.ofNat s.length :: (s ++ r)) = _
  rw [texts, e, if_pos (by simp), List.take_left, List.drop_left]
theorem texts_back : ∀ (k : Nat) (r : Bytes) (l : List Bytes) (q : Bytes), texts k r = some (l, q) → r = l.flatMap txt ++ q ∧ l.length = k ∧ ∀ x ∈ l, x.length ≤ 255
  | 0, r, l, q, h => by
    simp only [texts, Option.some.injEq, Prod.mk.injEq] at h
    obtain ⟨rfl, rfl⟩ := h
    exact ⟨rfl, rfl, by simp⟩
  | k + 1, [], l, q, h => by simp [texts] at h
  | k + 1, c :: r, l, q, h => by
    unfold texts at h
    by_cases hc : c.toNat ≤ r.length
    · rw [if_pos hc] at h
      obtain ⟨⟨l', q'⟩, h1, h2⟩ := Option.map_eq_some_iff.1 h
      simp only [Prod.mk.injEq] at h2
      obtain ⟨rfl, rfl⟩ := h2
      obtain ⟨e, hl, hx⟩ := texts_back k _ l' q' h1
      have hlen : (r.take c.toNat).length = c.toNat := by rw [List.length_take]; omega
      have hcc := c.toNat_lt
      refine ⟨?_, by simp [hl], ?_⟩
      · rw [List.flatMap_cons, List.append_assoc, ← e]
        show c :: r = UInt8.ofNat (r.take c.toNat).length :: (r.take c.toNat ++ r.drop c.toNat)
        rw [hlen, UInt8.ofNat_toNat, List.take_append_drop]
      · intro x hx'
        rcases List.mem_cons.1 hx' with rfl | h'
        · omega
        · exact hx x h'
    · rw [if_neg hc] at h
      cases h

/-- What lies ahead of the texts. -/
structure Hd (s : Bytes) : Prop where
  len : 23 ≤ s.length
  fr : (s.getD 2 0).toNat ≤ 1
  m3 : s.getD 3 0 = 0
  m4 : s.getD 4 0 = 0
  u1 : s.getD 11 0 = 0
  u2 : s.getD 12 0 = 0
def hd (s : Bytes) : Bool := decide (23 ≤ s.length ∧ (s.getD 2 0).toNat ≤ 1 ∧ s.getD 3 0 = 0 ∧ s.getD 4 0 = 0 ∧ s.getD 11 0 = 0 ∧ s.getD 12 0 = 0)
/-- The record of what was read. -/
def mk (n s : Bytes) (l : List Bytes) : R := { kind := ((s.getD 0 0).toNat : Int), name := n, parent := l.getD 0 [], user := l.getD 1 [], service := l.getD 2 [], url := l.getD 3 [], made := (num ((s.drop 3).take 8) : Int), used := (num ((s.drop 11).take 8) : Int), uses := ((s.getD 1 0).toNat : Int), fresh := decide ((s.getD 2 0).toNat = 1) }
def refDec (n s : Bytes) : Option R := if hd s = true then (match texts 4 (s.drop 19) with
  | some (l, q) => if q = [] ∧ right (mk n s l) = true then some (mk n s l) else none
  | none => none) else none
theorem be_small {n : Nat} (h : n < 281474976710656) : ∃ t, be 8 n = 0 :: 0 :: t := by
  refine ⟨be 6 n, ?_⟩
  have e1 : n / 256 ^ 7 = 0 := Nat.div_eq_of_lt (by omega)
  have e2 : n / 256 ^ 6 = 0 := Nat.div_eq_of_lt (by omega)
  rw [be, be, e1, e2]
  rfl
/-- What the document reads is written as it was. -/
theorem ref_back {n s : Bytes} {r : R} (h : refDec n s = some r) : Ok r ∧ enc r = s ∧ r.name = n := by
  unfold refDec at h
  by_cases hh : hd s = true
  · rw [if_pos hh] at h
    obtain ⟨h1, h2, h3, h4, h5, h6⟩ := of_decide_eq_true hh
    cases ht : texts 4 (s.drop 19) with
    | none => rw [ht] at h; cases h
    | some x =>
      obtain ⟨l, q⟩ := x
      rw [ht] at h
      dsimp only at h
      by_cases hq : q = [] ∧ right (mk n s l) = true
      · rw [if_pos hq] at h
        have e := Option.some.inj h
        subst e
        obtain ⟨rfl, hr⟩ := hq
        obtain ⟨hb, hl4, _⟩ := texts_back _ _ _ _ ht
        refine ⟨(right_iff _).1 hr, ?_, rfl⟩
        rw [List.append_nil] at hb
        obtain ⟨a, b, c, d, rfl⟩ : ∃ a b c d, l = [a, b, c, d] := by
          match l, hl4 with
          | [a, b, c, d], _ => exact ⟨a, b, c, d, rfl⟩
        have hs : s = s.take 3 ++ ((s.drop 3).take 8 ++ ((s.drop 11).take 8 ++ s.drop 19)) := by
          have t1 : s.drop 11 = (s.drop 11).take 8 ++ s.drop 19 := by
            have := List.take_append_drop 8 (s.drop 11)
            rw [List.drop_drop] at this
            exact this.symm
          have t2 : s.drop 3 = (s.drop 3).take 8 ++ s.drop 11 := by
            have := List.take_append_drop 8 (s.drop 3)
            rw [List.drop_drop] at this
            exact this.symm
          rw [← t1, ← t2, List.take_append_drop]
        have l3 : ((s.drop 3).take 8).length = 8 := by rw [List.length_take, List.length_drop]; omega
        have l11 : ((s.drop 11).take 8).length = 8 := by rw [List.length_take, List.length_drop]; omega
        have hhead : s.take 3 = [s.getD 0 0, s.getD 1 0, s.getD 2 0] := by
          match s, h1 with
          | c0 :: c1 :: c2 :: r, _ => rfl
        have hf : (if decide ((s.getD 2 0).toNat = 1) = true then (1 : UInt8) else 0) = s.getD 2 0 := by
          generalize s.getD 2 0 = c at h2
          have : c.toNat = 0 ∨ c.toNat = 1 := by omega
          rcases this with h0 | h0
          · have : c = 0 := UInt8.toNat_inj.1 h0
            subst this
            rfl
          · have : c = 1 := UInt8.toNat_inj.1 h0
            subst this
            rfl
        have b3 := be_num ((s.drop 3).take 8)
        have b11 := be_num ((s.drop 11).take 8)
        rw [l3] at b3
        rw [l11] at b11
        unfold enc head mk
        simp only [Int.toNat_natCast, b3, b11, UInt8.ofNat_toNat, hf]
        conv => rhs; rw [hs, hhead, hb]
        simp
      · rw [if_neg hq] at h
        cases h
  · rw [if_neg hh] at h
    cases h
/-- What is written the document reads. -/
theorem ref_enc {r : R} (h : Ok r) : refDec r.name (enc r) = some r := by
  have hp := h.parent
  have hu := h.us
  have hs := h.sv
  have hl := h.ur
  have hk := comes_kind h.cm
  have hm := h.m0
  have hmu := h.mu
  have hut := h.ut
  have hs0 := h.s0
  have hs1 := h.s1
  have hr := (right_iff r).2 h
  have hlen := enc_len r
  obtain ⟨kind, name, parent, user, service, url, made, used, uses, fresh⟩ := r
  dsimp only at *
  obtain ⟨K, rfl⟩ := Int.eq_ofNat_of_zero_le (show 0 ≤ kind by omega)
  obtain ⟨M, rfl⟩ := Int.eq_ofNat_of_zero_le hm
  obtain ⟨U, rfl⟩ := Int.eq_ofNat_of_zero_le (show 0 ≤ used by omega)
  obtain ⟨X, rfl⟩ := Int.eq_ofNat_of_zero_le hs0
  obtain ⟨m6, hm6⟩ := be_small (n := M) (by omega)
  obtain ⟨u6, hu6⟩ := be_small (n := U) (by omega)
  have lM := be_len 8 M
  have lU := be_len 8 U
  have e : enc ⟨(K : Int), name, parent, user, service, url, (M : Int), (U : Int), (X : Int), fresh⟩ = [UInt8.ofNat K, UInt8.ofNat X, if fresh then 1 else 0] ++ (be 8 M ++ (be 8 U ++ (txt parent ++ (txt user ++ (txt service ++ (txt url ++ [])))))) := by
    unfold enc head
    simp
  have ht : texts 4 (txt parent ++ (txt user ++ (txt service ++ (txt url ++ [])))) = some ([parent, user, service, url], []) := by
    rw [texts_txt _ _ _ (by omega), texts_txt _ _ _ (by omega), texts_txt _ _ _ (by omega), texts_txt _ _ _ (by omega)]
    rfl
  rw [e] at hlen ⊢
  generalize txt parent ++ (txt user ++ (txt service ++ (txt url ++ []))) = T at ht hlen ⊢
  have d3 : ([UInt8.ofNat K, UInt8.ofNat X, if fresh then 1 else 0] ++ (be 8 M ++ (be 8 U ++ T))).drop 3 = be 8 M ++ (be 8 U ++ T) := rfl
  have d11 : ([UInt8.ofNat K, UInt8.ofNat X, if fresh then 1 else 0] ++ (be 8 M ++ (be 8 U ++ T))).drop 11 = be 8 U ++ T := by
    rw [show 11 = 3 + 8 from rfl, ← List.drop_drop, d3]
    exact List.drop_left' (be_len 8 M)
  have d19 : ([UInt8.ofNat K, UInt8.ofNat X, if fresh then 1 else 0] ++ (be 8 M ++ (be 8 U ++ T))).drop 19 = T := by
    rw [show 19 = 11 + 8 from rfl, ← List.drop_drop, d11]
    exact List.drop_left' (be_len 8 U)
  have g0 : (([UInt8.ofNat K, UInt8.ofNat X, if fresh then 1 else 0] ++ (be 8 M ++ (be 8 U ++ T))).getD 0 0) = UInt8.ofNat K := rfl
  have g1 : (([UInt8.ofNat K, UInt8.ofNat X, if fresh then 1 else 0] ++ (be 8 M ++ (be 8 U ++ T))).getD 1 0) = UInt8.ofNat X := rfl
  have g2 : (([UInt8.ofNat K, UInt8.ofNat X, if fresh then 1 else 0] ++ (be 8 M ++ (be 8 U ++ T))).getD 2 0) = if fresh then 1 else 0 := rfl
  have g3 : (([UInt8.ofNat K, UInt8.ofNat X, if fresh then 1 else 0] ++ (be 8 M ++ (be 8 U ++ T))).getD 3 0) = 0 := by rw [hm6]; rfl
  have g4 : (([UInt8.ofNat K, UInt8.ofNat X, if fresh then 1 else 0] ++ (be 8 M ++ (be 8 U ++ T))).getD 4 0) = 0 := by rw [hm6]; rfl
  have g11 : (([UInt8.ofNat K, UInt8.ofNat X, if fresh then 1 else 0] ++ (be 8 M ++ (be 8 U ++ T))).getD 11 0) = 0 := by
    have : ((([UInt8.ofNat K, UInt8.ofNat X, if fresh then 1 else 0] ++ (be 8 M ++ (be 8 U ++ T))).drop 11).getD 0 0) = 0 := by rw [d11, hu6]; rfl
    rwa [List.getD_eq_getElem?_getD, List.getElem?_drop, ← List.getD_eq_getElem?_getD] at this
  have g12 : (([UInt8.ofNat K, UInt8.ofNat X, if fresh then 1 else 0] ++ (be 8 M ++ (be 8 U ++ T))).getD 12 0) = 0 := by
    have : ((([UInt8.ofNat K, UInt8.ofNat X, if fresh then 1 else 0] ++ (be 8 M ++ (be 8 U ++ T))).drop 11).getD 1 0) = 0 := by rw [d11, hu6]; rfl
    rwa [List.getD_eq_getElem?_getD, List.getElem?_drop, ← List.getD_eq_getElem?_getD] at this
  have hk2 : (UInt8.ofNat K).toNat = K := by rw [UInt8.toNat_ofNat']; omega
  have hx2 : (UInt8.ofNat X).toNat = X := by rw [UInt8.toNat_ofNat']; omega
  have n8 : num (be 8 M) = M := by rw [num_be]; omega
  have n9 : num (be 8 U) = U := by rw [num_be]; omega
  have hmk : mk name ([UInt8.ofNat K, UInt8.ofNat X, if fresh then 1 else 0] ++ (be 8 M ++ (be 8 U ++ T))) [parent, user, service, url] = ⟨(K : Int), name, parent, user, service, url, (M : Int), (U : Int), (X : Int), fresh⟩ := by
    unfold mk
    rw [g0, g1, g2, d3, d11, List.take_left' lM, List.take_left' lU, hk2, hx2, n8, n9]
    cases fresh <;> rfl
  have hhd : hd ([UInt8.ofNat K, UInt8.ofNat X, if fresh then 1 else 0] ++ (be 8 M ++ (be 8 U ++ T))) = true := by
    unfold hd
    rw [g2, g3, g4, g11, g12]
    refine decide_eq_true ⟨?_, ?_, rfl, rfl, rfl, rfl⟩
    · rw [hlen]; omega
    · cases fresh <;> decide
  unfold refDec
  rw [if_pos hhd, d19, ht]
  dsimp only
  rw [hmk, if_pos ⟨rfl, hr⟩]
theorem num_lead {l : Bytes} (h0 : l.getD 0 0 = 0) (h1 : l.getD 1 0 = 0) (hl : l.length ≤ 8) : num l < 281474976710656 := by
  match l, h0, h1, hl with
  | [], _, _, _ => simp [num]
  | [a], h0, _, _ =>
    have : a = 0 := h0
    subst this
    simp [num]
  | a :: b :: t, h0, h1, hl =>
    have ha : a = 0 := h0
    have hb : b = 0 := h1
    subst ha hb
    have ht := num_lt t
    have h6 : 256 ^ t.length ≤ 256 ^ 6 := Nat.pow_le_pow_right (by decide) (by simp at hl; omega)
    rw [num_cons, num_cons]
    simp
    omega
theorem take_getD {l : Bytes} {i : Nat} (j : Nat) (h : l.getD i 0 = 0) : (l.take j).getD i 0 = 0 := by
  rw [List.getD_eq_getElem?_getD] at h ⊢
  rw [List.getElem?_take]
  split
  · exact h
  · rfl
theorem drop_getD (l : Bytes) (k i : Nat) : (l.drop k).getD i 0 = l.getD (k + i) 0 := by
  rw [List.getD_eq_getElem?_getD, List.getD_eq_getElem?_getD, List.getElem?_drop]
theorem num_take {l : Bytes} {k j : Nat} (h : k + j < l.length) : num ((l.drop k).take (j + 1)) = 256 * num ((l.drop k).take j) + (l.getD (k + j) 0).toNat := by
  have h' : j < (l.drop k).length := by rw [List.length_drop]; omega
  rw [List.take_succ_eq_append_getElem h', num_snoc, ← drop_getD, List.getD_eq_getElem?_getD, List.getElem?_eq_getElem h']
  rfl
theorem ref_dec (n s : Bytes) : refDec n s = dec n s := by
  cases h : refDec n s with
  | some r =>
    obtain ⟨h1, h2, h3⟩ := ref_back h
    rw [← h2, ← h3, dec_enc h1]
  | none =>
    cases h' : dec n s with
    | none => rfl
    | some r =>
      obtain ⟨h1, h2, h3⟩ := dec_some h'
      rw [← h2, ← h3, ref_enc h1] at h
      cases h
end Rk
end Go.Proofs.YtgbcbihfaiiolaaDoor
