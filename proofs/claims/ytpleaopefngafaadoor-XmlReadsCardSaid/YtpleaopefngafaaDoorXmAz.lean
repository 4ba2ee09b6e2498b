/- What is guessed of one mark and the text behind it: guessElement of package xml, for texts of at most 2^24 bytes. -/
import Derived.Test.YtpleaopefngafaaDoorXmAy
namespace Go.Proofs.YtpleaopefngafaaDoor
set_option maxRecDepth 8000
open Go.RowKit
namespace Xm
def attrsL (r : Bytes) : List PairL := attrsG r.length r
def stepN (r : Bytes) : Bytes := (Lib.cut r [61, 34]).1
def stepV (r : Bytes) : Bytes := (unescape (Lib.cut (Lib.cut r [61, 34]).2.1 [34]).1).getD []
def stepR (r : Bytes) : Bytes := Lib.trimPrefix (Lib.cut (Lib.cut r [61, 34]).2.1 [34]).2.1 [32]
theorem cut_less {r sep : Bytes} (h : r ≠ []) (hs : sep ≠ []) : (Lib.cut r sep).2.1.length < r.length := by
  have h1 : 0 < r.length := List.length_pos_iff.2 h
  have h2 : 0 < sep.length := List.length_pos_iff.2 hs
  unfold Lib.cut
  split
  · simp; omega
  · exact h1
theorem cut_le (r sep : Bytes) : (Lib.cut r sep).2.1.length ≤ r.length ∧ (Lib.cut r sep).1.length ≤ r.length := by
  unfold Lib.cut
  split
  · exact ⟨by simp, by simp; omega⟩
  · exact ⟨by simp, Nat.le_refl _⟩
theorem stepR_less {r : Bytes} (h : r ≠ []) : (stepR r).length < r.length := by
  have h1 := cut_less (sep := [61, 34]) h (by simp)
  have h2 := (cut_le (Lib.cut r [61, 34]).2.1 [34]).1
  have h3 := Lib.trimPrefix_le (Lib.cut (Lib.cut r [61, 34]).2.1 [34]).2.1 [32]
  unfold stepR
  omega
theorem attrsG_fuel : ∀ (f g : Nat) (r : Bytes), r.length ≤ f → r.length ≤ g → attrsG f r = attrsG g r
  | 0, g, r, hf, _ => by
    have : r = [] := List.length_eq_zero_iff.1 (by omega)
    subst this
    cases g <;> simp [attrsG]
  | f + 1, 0, r, _, hg => by
    have : r = [] := List.length_eq_zero_iff.1 (by omega)
    subst this
    simp [attrsG]
  | f + 1, g + 1, r, hf, hg => by
    by_cases h : r = []
    · subst h; simp [attrsG]
    · have hl := stepR_less h
      unfold stepR at hl
      unfold attrsG
      rw [if_neg h, if_neg h, attrsG_fuel f g _ (by omega) (by omega)]
theorem attrsG_succ (f : Nat) (s : Bytes) : attrsG (f + 1) s = if s = [] then [] else (stepN s, stepV s) :: attrsG f (stepR s) := rfl
theorem attrsL_step {r : Bytes} (h : r ≠ []) : attrsL r = (stepN r, stepV r) :: attrsL (stepR r) := by
  have hl := stepR_less h
  unfold attrsL
  obtain ⟨f, hf⟩ : ∃ f, r.length = f + 1 := ⟨r.length - 1, by have := List.length_pos_iff.2 h; omega⟩
  rw [hf, attrsG_succ, if_neg h, attrsG_fuel f (stepR r).length (stepR r) (by omega) (Nat.le_refl _)]
theorem attrsL_nil : attrsL [] = [] := rfl
theorem elementG_eq (m t : Bytes) : elementG m t = .mk (Lib.cut m [32]).1 (attrsL (Lib.cut m [32]).2.1) ((unescape t).getD []) [] := rfl
end Xm

/-- A block of one element's four cells. -/
def BN (w : World) (g : Nat) (v0 v1 v2 v3 : Value) : Prop := w.heap[g]? = some (.cells #[v0, v1, v2, v3] 26 (0, 0))
section
variable {w w' : World} {g : Nat} {v0 v1 v2 v3 : Value}
theorem BN.lt (h : BN w g v0 v1 v2 v3) : g < w.heap.size := blk_lt h
theorem BN.c0 (h : BN w g v0 v1 v2 v3) : w.cell? ⟨g, 0, none⟩ = some v0 := by rw [cell_of_row w g 0 _ _ _ h]; rfl
theorem BN.c1 (h : BN w g v0 v1 v2 v3) : w.cell? ⟨g, 1, none⟩ = some v1 := by rw [cell_of_row w g 1 _ _ _ h]; rfl
theorem BN.c2 (h : BN w g v0 v1 v2 v3) : w.cell? ⟨g, 2, none⟩ = some v2 := by rw [cell_of_row w g 2 _ _ _ h]; rfl
theorem BN.c3 (h : BN w g v0 v1 v2 v3) : w.cell? ⟨g, 3, none⟩ = some v3 := by rw [cell_of_row w g 3 _ _ _ h]; rfl
theorem BN.fr (h : BN w g v0 v1 v2 v3) (i : Nat) : w.frozen? ⟨g, i, none⟩ = false := by unfold BN at h; simp [World.frozen?, h]
theorem BN.set0 (h : BN w g v0 v1 v2 v3) (u : Value) : BN (w.setCell ⟨g, 0, none⟩ u) g u v1 v2 v3 := by unfold BN at h ⊢; simp [World.setCell, Array.getElem?_modify, h]
theorem BN.set1 (h : BN w g v0 v1 v2 v3) (u : Value) : BN (w.setCell ⟨g, 1, none⟩ u) g v0 u v2 v3 := by unfold BN at h ⊢; simp [World.setCell, Array.getElem?_modify, h]
theorem BN.set2 (h : BN w g v0 v1 v2 v3) (u : Value) : BN (w.setCell ⟨g, 2, none⟩ u) g v0 v1 u v3 := by unfold BN at h ⊢; simp [World.setCell, Array.getElem?_modify, h]
theorem BN.set3 (h : BN w g v0 v1 v2 v3) (u : Value) : BN (w.setCell ⟨g, 3, none⟩ u) g v0 v1 v2 u := by unfold BN at h ⊢; simp [World.setCell, Array.getElem?_modify, h]
theorem BN.far (h : BN w g v0 v1 v2 v3) {g' i : Nat} (hne : g ≠ g') (u : Value) : BN (w.setCell ⟨g', i, none⟩ u) g v0 v1 v2 v3 := (Below.heap_setCell w ⟨g', i, none⟩ u g hne).trans h
theorem BN.next (h : BN w g v0 v1 v2 v3) (hb : Below w.heap.size w w') : BN w' g v0 v1 v2 v3 := (hb.block g h.lt).trans h
theorem BN.keepB {bd : Nat} (h : BN w g v0 v1 v2 v3) (hb : Below bd w w') (hg : g < bd) : BN w' g v0 v1 v2 v3 := (hb.block g hg).trans h
theorem BN.alloc (h : BN w g v0 v1 v2 v3) (o : Obj) : BN (w.alloc o) g v0 v1 v2 v3 := (Below.heap_alloc w o g h.lt).trans h
theorem BN.grown {row : Option Nat} (h : BN w g v0 v1 v2 v3) (hg : w.grownBy w' row) (hr : row ≠ some g) : BN w' g v0 v1 v2 v3 := (hg.block g h.lt (fun e => hr e.symm)).trans h
/-- A block of one pair's two cells. -/
def BP (w : World) (g : Nat) (x y : Value) : Prop := w.heap[g]? = some (.cells #[x, y] 38 (0, 0))
variable {x y : Value}
theorem BP.lt (h : BP w g x y) : g < w.heap.size := blk_lt h
theorem BP.c0 (h : BP w g x y) : w.cell? ⟨g, 0, none⟩ = some x := by rw [cell_of_row w g 0 _ _ _ h]; rfl
theorem BP.c1 (h : BP w g x y) : w.cell? ⟨g, 1, none⟩ = some y := by rw [cell_of_row w g 1 _ _ _ h]; rfl
theorem BP.fr (h : BP w g x y) (i : Nat) : w.frozen? ⟨g, i, none⟩ = false := by unfold BP at h; simp [World.frozen?, h]
theorem BP.set0 (h : BP w g x y) (u : Value) : BP (w.setCell ⟨g, 0, none⟩ u) g u y := by unfold BP at h ⊢; simp [World.setCell, Array.getElem?_modify, h]
theorem BP.set1 (h : BP w g x y) (u : Value) : BP (w.setCell ⟨g, 1, none⟩ u) g x u := by unfold BP at h ⊢; simp [World.setCell, Array.getElem?_modify, h]
theorem BP.next (h : BP w g x y) (hb : Below w.heap.size w w') : BP w' g x y := (hb.block g h.lt).trans h
end
theorem own_set_ne {w : World} {base g i : Nat} {e : TypeId} {size : Nat} {v : Value} {n : Nat} {xs : List Value} (h : w.ownsRow base e size v n xs) (hne : v.ownBlock ≠ some g) (u : Value) : (w.setCell ⟨g, i, none⟩ u).ownsRow base e size v n xs := by
  refine ⟨h.1, ?_⟩
  rcases h.2 with h1 | ⟨g', cap, cur, hv, hb, hg, r⟩
  · exact .inl h1
  · refine .inr ⟨g', cap, cur, hv, hb, (Below.heap_setCell w ⟨g, i, none⟩ u g' (fun he => hne ?_)).trans hg, r⟩
    rw [hv]
    simp [Value.ownBlock, he]
theorem own_monoB {w : World} {base base' : Nat} {e : TypeId} {size : Nat} {v : Value} {n : Nat} {xs : List Value} (h : w.ownsRow base e size v n xs) (hb : base' ≤ base) : w.ownsRow base' e size v n xs := by
  refine ⟨h.1, ?_⟩
  rcases h.2 with h1 | ⟨g, cap, cur, hv, hbase, hr⟩
  · exact .inl h1
  · exact .inr ⟨g, cap, cur, hv, by omega, hr⟩
theorem unesc_to (l p : List UInt8) (w : World) (he : EnvX w) (hl : l.length ≤ 16777216) (hp : (Xm.unescape l).getD [] = p) :
    Calls Tryd.prog 37 #[.string (S l)] w fun e w' => (∃ c : Int, e = .returned (.tuple #[.string (S p), .int .i64 c])) ∧ Below w.heap.size w w' := by
  refine (unescape_any l w he hl).mono ?_
  rintro e w' ⟨rfl, hb⟩
  refine ⟨?_, hb⟩
  rw [← hp]
  cases Xm.unescape l with
  | none => exact ⟨10, rfl⟩
  | some q => exact ⟨0, rfl⟩
theorem unescape_len {l : List UInt8} (h : l.length ≤ 16777216) : ((Xm.unescape l).getD []).length ≤ 16777216 := by
  cases hu : Xm.unescape l with
  | none => simp
  | some p =>
    have h1 := (Xm.unescape_is l p).1 hu
    have h2 := escape_le p
    rw [← h1] at h2
    show p.length ≤ _
    omega
theorem trimPrefix_to (l : List UInt8) (w : World) :
    Calls Tryd.prog 38 #[.string (S l), .string ⟨#[32]⟩] w fun e w' => e = .returned (.string (S (Lib.trimPrefix l [32]))) ∧ w = w' := by
  refine (Tryd.strings_TrimPrefix (S l) ⟨#[32]⟩ w).mono ?_
  rintro e w' ⟨rfl, rfl⟩
  exact ⟨rfl, rfl⟩
end Go.Proofs.YtpleaopefngafaaDoor
