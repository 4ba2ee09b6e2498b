/- The document's reading of an element, plain, step by step at a text's places. No program stands in it. No condition. -/
import Derived.Test.YtpleaopefngafaaDoorXmEp
namespace Go.Proofs.YtpleaopefngafaaDoor
set_option maxRecDepth 8000
namespace Xm

theorem tk_take (c : UInt8) (l : Bytes) : tk c l = l.take (tk c l).length := by
  have h := congrArg (List.take (tk c l).length) (tk_dr c l)
  rw [List.take_left] at h
  exact h.symm
theorem dr_drop (c : UInt8) (l : Bytes) : dr c l = l.drop (tk c l).length := by
  have h := congrArg (List.drop (tk c l).length) (tk_dr c l)
  rw [List.drop_left] at h
  exact h.symm
theorem tk_le (c : UInt8) (l : Bytes) : (tk c l).length ≤ l.length := by
  have h := congrArg List.length (tk_dr c l)
  rw [List.length_append] at h
  omega
theorem get_drop (l : Bytes) (k i : Nat) : (l.drop k)[i]? = l[k + i]? := List.getElem?_drop ..
theorem head_drop (l : Bytes) (k : Nat) : (l.drop k).head? = l[k]? := by
  rw [List.head?_eq_getElem?, get_drop]
  rfl
theorem drop_ne {l : Bytes} {k : Nat} : l.drop k = [] ↔ l.length ≤ k := List.drop_eq_nil_iff

/-- What is read behind the attributes. -/
def afterA (D L : Nat) (nm : Bytes) (q : List PairL × Bytes) : Option (N × Bytes) :=
  if q.2.head? = some 62 then (unescape (tk 60 (q.2.drop 1))).bind fun tx => (kidsP (elP D) L (dr 60 (q.2.drop 1))).bind fun k => lastP (nm, q.1, tx) k else none
theorem elP_succ (D : Nat) (r : Bytes) : elP (D + 1) r = if r.head? = some 60 then (attrsP (r.length + 1) ((r.drop 1).dropWhile inName)).bind (afterA D (r.length + 1) ((r.drop 1).takeWhile inName)) else none := by
  conv => lhs; unfold elP
  unfold headP
  by_cases h : r.head? = some 60
  · rw [if_pos h, if_pos h]
    cases attrsP (r.length + 1) ((r.drop 1).dropWhile inName) with
    | none => rfl
    | some q =>
      dsimp only [Option.bind_some]
      unfold afterA
      by_cases h2 : q.2.head? = some 62
      · rw [if_pos h2, if_pos h2]
        cases unescape (tk 60 (q.2.drop 1)) <;> rfl
      · rw [if_neg h2, if_neg h2]; rfl
  · rw [if_neg h, if_neg h]; rfl

/-! ### Attributes -/
def AttrsTo (T : Option (N × Bytes)) (D L : Nat) (nm : Bytes) (l : Bytes) (ps : List PairL) (k : Nat) : Prop :=
  ∃ f, (l.drop k).length < f ∧ T = ((attrsP f (l.drop k)).map fun z => (ps ++ z.1, z.2)).bind (afterA D L nm)
section
variable {T : Option (N × Bytes)} {D L : Nat} {nm l : Bytes} {ps : List PairL} {k : Nat}
theorem AttrsTo.stop (h : AttrsTo T D L nm l ps k) (hk : l[k]? ≠ some 32) : T = afterA D L nm (ps, l.drop k) := by
  obtain ⟨f, hf, h⟩ := h
  cases f with
  | zero => omega
  | succ f =>
    unfold attrsP at h
    rw [head_drop, if_neg hk] at h
    rw [h]
    simp
theorem AttrsTo.bad (h : AttrsTo T D L nm l ps k) (hk : l[k]? = some 32) (hn : attrAt (l.drop (k + 1)) = none) : T = none := by
  obtain ⟨f, hf, h⟩ := h
  cases f with
  | zero => omega
  | succ f =>
    unfold attrsP at h
    rw [head_drop, if_pos hk, List.drop_drop, hn] at h
    exact h
theorem AttrsTo.good (h : AttrsTo T D L nm l ps k) (hk : l[k]? = some 32) {p : PairL} {k' : Nat} (hs : attrAt (l.drop (k + 1)) = some (p, l.drop k')) (hkk : k < k') : AttrsTo T D L nm l (ps ++ [p]) k' := by
  obtain ⟨f, hf, h⟩ := h
  have hkl : k < l.length := by
    rcases Nat.lt_or_ge k l.length with h | h
    · exact h
    · rw [List.getElem?_eq_none h] at hk; cases hk
  cases f with
  | zero => omega
  | succ f =>
    unfold attrsP at h
    rw [head_drop, if_pos hk, List.drop_drop, hs] at h
    refine ⟨f, by rw [List.length_drop] at hf ⊢; omega, ?_⟩
    rw [h]
    dsimp only [Option.bind_some]
    cases attrsP f (l.drop k') with
    | none => rfl
    | some z => simp
theorem attr_pos (hk : l[k]? = some 32) {e : Nat} (he : e = k + (tk 61 (l.drop k)).length) : k + 1 ≤ e ∧ e ≤ l.length ∧ tk 61 (l.drop (k + 1)) = (l.drop (k + 1)).take (e - (k + 1)) ∧ dr 61 (l.drop (k + 1)) = l.drop e := by
  have hkl : k < l.length := by
    rcases Nat.lt_or_ge k l.length with h | h
    · exact h
    · rw [List.getElem?_eq_none h] at hk; cases hk
  have hd : l.drop k = 32 :: l.drop (k + 1) := by
    rw [List.drop_eq_getElem_cons hkl]
    rw [List.getElem?_eq_getElem hkl] at hk
    injection hk with hk
    rw [hk]
  have ht : tk 61 (l.drop k) = 32 :: tk 61 (l.drop (k + 1)) := by
    rw [hd]
    unfold tk
    rw [List.takeWhile_cons, if_pos (by decide)]
  have hle := tk_le 61 (l.drop (k + 1))
  rw [List.length_drop] at hle
  rw [ht, List.length_cons] at he
  refine ⟨by omega, by omega, ?_, ?_⟩
  · conv => lhs; rw [tk_take]
    rw [show e - (k + 1) = (tk 61 (l.drop (k + 1))).length by omega]
  · rw [dr_drop, List.drop_drop, show k + 1 + (tk 61 (l.drop (k + 1))).length = e by omega]
theorem attr_at (hk : l[k]? = some 32) {e q : Nat} (he : e = k + (tk 61 (l.drop k)).length) (hq : q = e + 2 + (tk 34 (l.drop (e + 2))).length) : attrAt (l.drop (k + 1)) = if l[e + 1]? = some 34 then (if l.length ≤ q then none else (unescape ((l.drop (e + 2)).take (q - (e + 2)))).map fun x => (((l.drop (k + 1)).take (e - (k + 1)), x), l.drop (q + 1))) else none := by
  obtain ⟨h1, h2, h3, h4⟩ := attr_pos hk he
  have h5 : tk 34 (l.drop (e + 2)) = (l.drop (e + 2)).take (q - (e + 2)) := by
    conv => lhs; rw [tk_take]
    rw [show q - (e + 2) = (tk 34 (l.drop (e + 2))).length by omega]
  have h6 : dr 34 (l.drop (e + 2)) = l.drop q := by rw [dr_drop, List.drop_drop, hq]
  unfold attrAt
  rw [h3, h4, get_drop, List.drop_drop, h5, h6, List.drop_drop]
  by_cases c : l.length ≤ q
  · rw [if_pos (drop_ne.2 c), if_pos c]
  · rw [if_neg (fun h => c (drop_ne.1 h)), if_neg c]
end

/-! ### Kids -/
def KidsTo (T : Option (N × Bytes)) (D : Nat) (h : Bytes × List PairL × Bytes) (l : Bytes) (ks : List N) (k : Nat) : Prop :=
  ∃ f, (l.drop k).length < f ∧ T = ((kidsP (elP D) f (l.drop k)).map fun z => (ks ++ z.1, z.2)).bind (lastP h)
theorem el_pos {D : Nat} {l : Bytes} {k : Nat} {n : N} {r : Bytes} (h : elP D (l.drop k) = some (n, r)) : r = l.drop (l.length - r.length) ∧ k + 1 ≤ l.length - r.length ∧ r.length ≤ l.length := by
  have hs := elP_sound D _ n r h
  have hw := wr_long n
  have hl := congrArg List.length hs
  rw [List.length_drop, List.length_append] at hl
  have hx : l.length - r.length = k + (wr n).length := by omega
  refine ⟨?_, by omega, by omega⟩
  rw [hx, ← List.drop_drop, hs, List.drop_left]
theorem kid_pos (l : Bytes) (k : Nat) : kidNext (l.drop k) = (decide (k + 1 < l.length) && (l[k]? == some 60) && !(l[k + 1]? == some 47)) := by
  unfold kidNext
  rw [List.length_drop, head_drop, get_drop]
  congr 2
  simp
  omega
section
variable {T : Option (N × Bytes)} {D : Nat} {h : Bytes × List PairL × Bytes} {l : Bytes} {ks : List N} {k : Nat}
theorem KidsTo.stop (hT : KidsTo T D h l ks k) (hk : kidNext (l.drop k) = false) : T = lastP h (ks, l.drop k) := by
  obtain ⟨f, hf, e⟩ := hT
  cases f with
  | zero => omega
  | succ f =>
    unfold kidsP at e
    rw [hk] at e
    rw [e]
    simp
theorem KidsTo.bad (hT : KidsTo T D h l ks k) (hk : kidNext (l.drop k) = true) (hn : elP D (l.drop k) = none) : T = none := by
  obtain ⟨f, hf, e⟩ := hT
  cases f with
  | zero => omega
  | succ f =>
    unfold kidsP at e
    rw [hk, hn] at e
    exact e
theorem KidsTo.good (hT : KidsTo T D h l ks k) (hk : kidNext (l.drop k) = true) {n : N} {r : Bytes} (hn : elP D (l.drop k) = some (n, r)) : KidsTo T D h l (ks ++ [n]) (l.length - r.length) := by
  obtain ⟨f, hf, e⟩ := hT
  obtain ⟨h1, h2, h3⟩ := el_pos hn
  cases f with
  | zero => omega
  | succ f =>
    unfold kidsP at e
    rw [hk, hn] at e
    refine ⟨f, by rw [List.length_drop] at hf ⊢; omega, ?_⟩
    rw [e, ← h1]
    dsimp only [if_pos]
    rw [if_pos rfl]
    cases kidsP (elP D) f r with
    | none => rfl
    | some z => simp
end
theorem after_bad {D L : Nat} {nm l : Bytes} {ps : List PairL} {k : Nat} (hk : l[k]? ≠ some 62) : afterA D L nm (ps, l.drop k) = none := by
  unfold afterA
  dsimp only
  rw [head_drop, if_neg hk]
theorem after_at {D L : Nat} {nm l : Bytes} {ps : List PairL} {k e : Nat} (hk : l[k]? = some 62) (he : e = k + 1 + (tk 60 (l.drop (k + 1))).length) : afterA D L nm (ps, l.drop k) = (unescape ((l.drop (k + 1)).take (e - (k + 1)))).bind fun tx => (kidsP (elP D) L (l.drop e)).bind (lastP (nm, ps, tx)) := by
  unfold afterA
  dsimp only
  rw [head_drop, if_pos hk, List.drop_drop]
  have h5 : tk 60 (l.drop (k + 1)) = (l.drop (k + 1)).take (e - (k + 1)) := by
    conv => lhs; rw [tk_take]
    rw [show e - (k + 1) = (tk 60 (l.drop (k + 1))).length by omega]
  have h6 : dr 60 (l.drop (k + 1)) = l.drop e := by rw [dr_drop, List.drop_drop, he]
  rw [h5, h6]
theorem last_at {h : Bytes × List PairL × Bytes} {l : Bytes} {ks : List N} {k : Nat} : lastP h (ks, l.drop k) = if k + (h.1.length + 3) ≤ l.length ∧ (l.drop k).take (h.1.length + 3) = closing h.1 then some (.mk h.1 h.2.1 h.2.2 ks, l.drop (k + (h.1.length + 3))) else none := by
  have hc : (closing h.1).length = h.1.length + 3 := by simp [closing]
  unfold lastP
  dsimp only
  rw [List.drop_drop]
  by_cases hp : (closing h.1).isPrefixOf (l.drop k) = true
  · rw [if_pos hp]
    obtain ⟨t, ht⟩ := List.isPrefixOf_iff_prefix.1 hp
    have hl := congrArg List.length ht
    rw [List.length_append, List.length_drop, hc] at hl
    rw [if_pos]
    exact ⟨by omega, by rw [← ht, ← hc, List.take_left]⟩
  · rw [if_neg hp, if_neg]
    rintro ⟨h1, h2⟩
    exact hp (List.isPrefixOf_iff_prefix.2 ⟨(l.drop k).drop (h.1.length + 3), by rw [← h2, List.take_append_drop]⟩)
theorem name_pos (l : Bytes) (k : Nat) {e : Nat} (he : e = k + ((l.drop k).takeWhile inName).length) : e ≤ max k l.length ∧ (l.drop k).takeWhile inName = (l.drop k).take (e - k) ∧ (l.drop k).dropWhile inName = l.drop e := by
  have h : l.drop k = (l.drop k).takeWhile inName ++ (l.drop k).dropWhile inName := (List.takeWhile_append_dropWhile ..).symm
  have h1 := congrArg (List.take ((l.drop k).takeWhile inName).length) h
  rw [List.take_left] at h1
  have h2 := congrArg (List.drop ((l.drop k).takeWhile inName).length) h
  rw [List.drop_left, List.drop_drop] at h2
  have h3 := congrArg List.length h
  rw [List.length_append, List.length_drop] at h3
  refine ⟨by omega, ?_, ?_⟩
  · rw [show e - k = ((l.drop k).takeWhile inName).length by omega]; exact h1.symm
  · rw [he]; exact h2.symm
theorem AttrsTo.start {D : Nat} {l : Bytes} {k e : Nat} (h60 : l[k]? = some 60) (he : e = k + 1 + ((l.drop (k + 1)).takeWhile inName).length) : ∃ L, l.length - e < L ∧ AttrsTo (elP (D + 1) (l.drop k)) D L ((l.drop (k + 1)).take (e - (k + 1))) l [] e := by
  obtain ⟨h1, h2, h3⟩ := name_pos l (k + 1) he
  refine ⟨(l.drop k).length + 1, by rw [List.length_drop]; omega, (l.drop k).length + 1, by rw [List.length_drop, List.length_drop]; omega, ?_⟩
  rw [elP_succ, head_drop, if_pos h60, List.drop_drop, h3, h2]
  cases attrsP ((l.drop k).length + 1) (l.drop e) with
  | none => rfl
  | some z => rfl
theorem el_bad {D : Nat} {l : Bytes} {k : Nat} (h60 : l[k]? ≠ some 60) : elP (D + 1) (l.drop k) = none := by
  rw [elP_succ, head_drop, if_neg h60]
theorem KidsTo.start {T : Option (N × Bytes)} {D L : Nat} {h : Bytes × List PairL × Bytes} {l : Bytes} {k : Nat} (hT : T = (kidsP (elP D) L (l.drop k)).bind (lastP h)) (hL : l.length - k < L) : KidsTo T D h l [] k := by
  refine ⟨L, by rw [List.length_drop]; exact hL, ?_⟩
  rw [hT]
  cases kidsP (elP D) L (l.drop k) with
  | none => rfl
  | some z => rfl
end Xm
end Go.Proofs.YtpleaopefngafaaDoor
