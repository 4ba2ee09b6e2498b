/- What package url's Dots answers, for any text of at most 2^30 bytes. -/
import Derived.Test.YtbpeohadgplaaaaDoorVe
namespace Go.Proofs.YtbpeohadgplaaaaDoor
set_option maxRecDepth 8000
open Go.RowKit

theorem join_len (ks : List (List UInt8)) : (Url.joinS ks.dropLast).length ≤ (Url.joinS ks).length := by
  by_cases hk : ks = []
  · subst hk; simp
  · have e : ks = ks.dropLast ++ [ks.getLast hk] := (List.dropLast_concat_getLast hk).symm
    have : Url.joinS ks = Url.joinS ks.dropLast ++ Url.joinS [ks.getLast hk] := by rw [← Url.joinS_append, ← e]
    rw [this]
    simp
theorem join_drop (ks : List (List UInt8)) : Url.joinS ks.dropLast = (Url.joinS ks).take (Url.joinS ks.dropLast).length := by
  by_cases hk : ks = []
  · subst hk; rfl
  · have e : ks = ks.dropLast ++ [ks.getLast hk] := (List.dropLast_concat_getLast hk).symm
    have : Url.joinS ks = Url.joinS ks.dropLast ++ Url.joinS [ks.getLast hk] := by rw [← Url.joinS_append, ← e]
    rw [this, List.take_left']
    rfl
theorem join_snoc (ks : List (List UInt8)) (p : List UInt8) : Url.joinS (ks ++ [p]) = (Url.joinS ks ++ [47]) ++ p := by
  rw [Url.joinS_append]
  simp [Url.joinS]
theorem lastD_snoc (done : List (List UInt8)) (p : List UInt8) : Url.lastD (done ++ [p]) = p := by simp [Url.lastD]

/-- Where the going through of the segments stands: what was gone through, what is to come, what was kept. -/
structure DotInv (t rest : List UInt8) (more : Bool) (seg : List UInt8) (ks : List (List UInt8)) (todo : Nat) : Prop where
  parts : ∃ done, Pct.split 47 t = done ++ (if more = true then Pct.split 47 rest else []) ∧ ks = Url.keptOf done ∧ (done = [] ∨ seg = Url.lastD done) ∧ (more = false → done ≠ [])
  left : todo = (if more = true then (Pct.split 47 rest).length else 0)
  room : (Url.joinS ks).length + (if more = true then (Url.joinS (Pct.split 47 rest)).length else 0) ≤ t.length + 1

theorem keptOf_snoc (done : List (List UInt8)) (p : List UInt8) : Url.keptOf (done ++ [p]) = Url.keep1 (Url.keptOf done) p := by simp [Url.keptOf]

theorem DotInv.step {t rest seg : List UInt8} {ks : List (List UInt8)} {n : Nat} (h : DotInv t rest true seg ks n) :
    DotInv t (Pct.cutAt 47 rest).2.1 (Pct.cutAt 47 rest).2.2 (Pct.cutAt 47 rest).1 (Url.keep1 ks (Pct.cutAt 47 rest).1) (n - 1) ∧ 0 < n := by
  have hs := Pct.split_cut 47 rest
  obtain ⟨⟨done, h1, h2, _, _⟩, h4, h5⟩ := h
  simp only [if_true] at h1 h4 h5
  generalize Pct.cutAt 47 rest = x at hs ⊢
  obtain ⟨p, r, f⟩ := x
  simp only at hs ⊢
  have hj : (Url.joinS (Pct.split 47 rest)).length = 1 + p.length + (Url.joinS (if f = true then Pct.split 47 r else [])).length := by
    rw [hs, Url.joinS_cons]
    simp
    omega
  refine ⟨⟨⟨done ++ [p], ?_, ?_, .inr (lastD_snoc done p).symm, fun _ => by simp⟩, ?_, ?_⟩, ?_⟩
  · rw [h1, hs]
    simp
  · rw [keptOf_snoc, h2]
  · rw [h4, hs]
    by_cases hf : f = true
    · simp [hf]
    · simp [hf]
  · have hk : (Url.joinS (Url.keep1 ks p)).length ≤ (Url.joinS ks).length + 1 + p.length := by
      unfold Url.keep1
      split
      · omega
      · split
        · have := join_len ks
          omega
        · rw [join_snoc]
          simp
          omega
    rw [hj] at h5
    by_cases hf : f = true
    · rw [if_pos hf] at h5 ⊢
      omega
    · rw [if_neg hf] at h5 ⊢
      omega
  · rw [h4, hs]
    simp
theorem DotInv.start (t : List UInt8) : DotInv t t true [] [] (Pct.split 47 t).length := by
  refine ⟨⟨[], by simp, rfl, .inl rfl, by simp⟩, by simp, ?_⟩
  rw [if_pos rfl, Url.join_split t t.length (Nat.le_refl _)]
  simp [Url.joinS]
theorem DotInv.room' {t rest seg : List UInt8} {more : Bool} {ks : List (List UInt8)} {n : Nat} (h : DotInv t rest more seg ks n) : (Url.joinS ks).length ≤ t.length + 1 := by
  have := h.room
  omega
theorem DotInv.free {t rest seg : List UInt8} {more : Bool} {ks : List (List UInt8)} {n : Nat} (h : DotInv t rest more seg ks n) : ∀ p ∈ ks, ∀ x ∈ p, x ≠ 47 := by
  obtain ⟨⟨done, h1, h2, _, _⟩, _, _⟩ := h
  intro p hp
  rw [h2] at hp
  have := (Url.kept_mem hp).1
  exact Url.split_no 47 t p (by rw [h1]; simp [this])
theorem DotInv.done {t rest seg : List UInt8} {ks : List (List UInt8)} {n : Nat} (h : DotInv t rest false seg ks n) : Url.dots (47 :: t) = Url.joinS ks ++ (if Url.isDot seg = true then [47] else []) := by
  obtain ⟨⟨done, h1, h2, h3, h4⟩, _, _⟩ := h
  have hne := h4 rfl
  have hseg : seg = Url.lastD done := by
    rcases h3 with h | h
    · exact absurd h hne
    · exact h
  simp only [Bool.false_eq_true, if_false, List.append_nil] at h1
  have hd : Url.dots (47 :: t) = Url.joinS (Url.keptOf (Pct.split 47 t)) ++ Url.tailOf (Pct.split 47 t) (Url.keptOf (Pct.split 47 t)) := by simp [Url.dots]
  rw [hd, h1, ← h2]
  congr 1
  unfold Url.tailOf
  rw [← hseg]
  by_cases hdot : Url.isDot seg = true
  · rw [hdot]; rfl
  · have hk : ks.isEmpty = false := by
      have e : done = done.dropLast ++ [done.getLast hne] := (List.dropLast_concat_getLast hne).symm
      have hl : Url.lastD done = done.getLast hne := by unfold Url.lastD; rw [List.getLast?_eq_some_getLast hne]; rfl
      rw [h2, e, keptOf_snoc, ← hl, ← hseg]
      unfold Url.keep1
      have n1 : seg ≠ [46] := by rintro rfl; exact hdot rfl
      have n2 : seg ≠ [46, 46] := by rintro rfl; exact hdot rfl
      rw [if_neg n1, if_neg n2]
      simp
    rw [hk]
    simp [hdot]

theorem rows_alloc {base : Nat} {w : World} {v : Value} {l : List UInt8} (h : Row base w v l) (o : Obj) : Row base (w.alloc o) v l := World.ownsRow.alloc h o
theorem Row.below {base : Nat} {w w' : World} {v : Value} {l : List UInt8} (h : Row base w v l) (hb : Below w.heap.size w w') : Row base w' v l := by
  obtain ⟨h1, h2⟩ := h
  refine ⟨h1, ?_⟩
  rcases h2 with h3 | ⟨g, cap, cur, h3, h4, h5, h6⟩
  · exact .inl h3
  · refine .inr ⟨g, cap, cur, h3, h4, ?_, h6⟩
    rw [hb.block g (Array.getElem?_eq_some_iff.1 h5).1]
    exact h5
end Go.Proofs.YtbpeohadgplaaaaDoor
