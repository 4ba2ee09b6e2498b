/- What package cookie's guess answers, for any text of at most 2^20 bytes, where the variables of strconv that it reaches read as their texts lay them. -/
import Derived.Test.YtpdilhnbbokipaaDoorCj
import Derived.Test.YtpdilhnbbokipaaDoorCkRead
import Derived.Deep.DeepCutAuto
namespace Go.Proofs.YtpdilhnbbokipaaDoor
set_option maxRecDepth 8000
open Go.RowKit

/-- What Read reads of package-level variables besides. -/
structure EnvE (w : World) : Prop where
  env : EnvC w
  syn : ∃ ev, w.cell? ⟨4, 0, none⟩ = some ev ∧ (ev = .nilIface ∨ ∃ te pe, ev = .iface te pe)
  ran : ∃ ev, w.cell? ⟨5, 0, none⟩ = some ev ∧ (ev = .nilIface ∨ ∃ te pe, ev = .iface te pe)
  lt : 4 < w.heap.size ∧ 5 < w.heap.size
theorem EnvE.next {w w' : World} (h : EnvE w) (hb : Below w.heap.size w w') : EnvE w' := by
  have hlt := h.lt
  refine ⟨h.env.next hb, ?_, ?_, Nat.lt_of_lt_of_le hlt.1 hb.size, Nat.lt_of_lt_of_le hlt.2 hb.size⟩
  · obtain ⟨ev, h1, h2⟩ := h.syn
    exact ⟨ev, (hb.cell (p := ⟨4, 0, none⟩) hlt.1).trans h1, h2⟩
  · obtain ⟨ev, h1, h2⟩ := h.ran
    exact ⟨ev, (hb.cell (p := ⟨5, 0, none⟩) hlt.2).trans h1, h2⟩
theorem EnvE.below {w w' : World} {B : Nat} (h : EnvE w) (hb : Below B w w') (hB : w.heap.size ≤ B) : EnvE w' := h.next (hb.mono hB)

theorem cut_to (l sep : List UInt8) (a b : List UInt8) (f : Bool) (w : World) (he : EnvC w) (hl : l.length ≤ 1073741824) (h : Lib.cut l sep = (a, b, f)) :
    Calls Tryd.prog 32 #[.string (S l), .string (S sep)] w fun e w' => e = .returned (.tuple #[.string (S a), .string (S b), .bool f]) ∧ Below w.heap.size w w' := by
  obtain ⟨m, hm⟩ := he.big
  refine (Tryd.strings_Cut (S l) (S sep) m w (by show l.length < _; omega) hm).mono ?_
  rintro e w' ⟨rfl, n, rfl⟩
  refine ⟨?_, below_drewN (Below.refl _ _) n⟩
  rw [S_toList, S_toList, h]
  rfl
theorem cutSuffix_to (l p : List UInt8) (a : List UInt8) (f : Bool) (w : World) (hl : l.length ≤ 1073741824) (h1 : Lib.trimSuffix l p = a) (h2 : Lib.hasSuffix l p = f) :
    Calls Tryd.prog 61 #[.string (S l), .string (S p)] w fun e w' => e = .returned (.tuple #[.string (S a), .bool f]) ∧ w = w' := by
  refine (Tryd.strings_CutSuffix (S l) (S p) w (by show l.length ≤ _; omega)).mono ?_
  rintro e w' ⟨rfl, hw⟩
  refine ⟨?_, hw.symm⟩
  rw [S_toList, S_toList, h1, h2]
  rfl
theorem cut_len (l sep : List UInt8) : (Lib.cut l sep).1.length ≤ l.length ∧ (Lib.cut l sep).2.1.length ≤ l.length := by
  unfold Lib.cut
  split
  · exact ⟨by rw [List.length_take]; omega, by rw [List.length_drop]; omega⟩
  · exact ⟨Nat.le_refl _, by simp⟩
theorem trimSuffix_len (l p : List UInt8) : (Lib.trimSuffix l p).length ≤ l.length := by
  unfold Lib.trimSuffix
  split
  · rw [List.length_take]; omega
  · exact Nat.le_refl _
theorem atoi_any (l : List UInt8) (w : World) (he : EnvE w) (hl : l.length ≤ 1073741824) :
    Calls Tryd.prog 62 #[.string (S l)] w fun e w' => ∃ v, e = .returned (.tuple #[.int .i64 (Ck.atoiV l), v]) ∧ Below w.heap.size w w' := by
  have hz : (S l).size = l.length := rfl
  match h : Lib.atoiAll l with
  | Lib.NumEnd.ok v =>
    refine (Tryd.strconv_Atoi_ok (S l) (by omega) v h w).mono ?_
    rintro e w' ⟨rfl, hw⟩
    refine ⟨.nilIface, by unfold Ck.atoiV; rw [h], ?_⟩
    rcases hw with rfl | ⟨t, rfl⟩
    · exact Below.refl _ _
    · exact Lib.bytesWorld_below w _ t
  | Lib.NumEnd.syntax =>
    obtain ⟨ev, h1, h2⟩ := he.syn
    refine (Tryd.strconv_Atoi_syntax (S l) (by omega) h ev w h1 h2).mono ?_
    rintro e w' ⟨N, rfl, _, _, hb⟩
    exact ⟨_, by unfold Ck.atoiV; rw [h], hb⟩
  | Lib.NumEnd.range =>
    obtain ⟨ev, h1, h2⟩ := he.ran
    refine (Tryd.strconv_Atoi_range (S l) (by omega) h ev w h1 h2).mono ?_
    rintro e w' ⟨N, rfl, _, _, hb⟩
    exact ⟨_, by unfold Ck.atoiV; rw [h]; rfl, hb⟩

section
variable {w : World} {g : Nat} {c : Ck.C}
theorem Blk6.set0 (h : Blk6 w g c) (x : List UInt8) : Blk6 (w.setCell ⟨g, 0, none⟩ (.string (S x))) g { c with name := x } := by
  unfold Blk6 at h ⊢
  rw [heap_setCell_same w g 0 _ _ _ h]
  rfl
theorem Blk6.set1 (h : Blk6 w g c) (x : List UInt8) : Blk6 (w.setCell ⟨g, 1, none⟩ (.string (S x))) g { c with val := x } := by
  unfold Blk6 at h ⊢
  rw [heap_setCell_same w g 1 _ _ _ h]
  rfl
theorem Blk6.set2 (h : Blk6 w g c) (x : List UInt8) : Blk6 (w.setCell ⟨g, 2, none⟩ (.string (S x))) g { c with path := x } := by
  unfold Blk6 at h ⊢
  rw [heap_setCell_same w g 2 _ _ _ h]
  rfl
theorem Blk6.set3 (h : Blk6 w g c) (x : Int) : Blk6 (w.setCell ⟨g, 3, none⟩ (.int .i64 x)) g { c with age := x } := by
  unfold Blk6 at h ⊢
  rw [heap_setCell_same w g 3 _ _ _ h]
  rfl
theorem Blk6.set4 (h : Blk6 w g c) (x : Bool) : Blk6 (w.setCell ⟨g, 4, none⟩ (.bool x)) g { c with sec := x } := by
  unfold Blk6 at h ⊢
  rw [heap_setCell_same w g 4 _ _ _ h]
  rfl
theorem Blk6.set5 (h : Blk6 w g c) (x : Bool) : Blk6 (w.setCell ⟨g, 5, none⟩ (.bool x)) g { c with http := x } := by
  unfold Blk6 at h ⊢
  rw [heap_setCell_same w g 5 _ _ _ h]
  rfl
theorem Blk6.other (h : Blk6 w g c) {g' i : Nat} (hne : g ≠ g') (u : Value) : Blk6 (w.setCell ⟨g', i, none⟩ u) g c := by
  unfold Blk6 at h ⊢
  rw [Below.heap_setCell w ⟨g', i, none⟩ u g hne]
  exact h
end

abbrev zeroC : Ck.C := ⟨[], [], [], 0, false, false⟩
/-- The two cookies of guess: the answer's, in block r, and the one that is filled, in block g. -/
structure GInv (w : World) (r g : Nat) (c : Ck.C) (w' : World) : Prop where
  res : Blk6 w' r zeroC
  cur : Blk6 w' g c
  below : Below w.heap.size w w'
section
variable {w w' w2 : World} {r g : Nat} {c : Ck.C}
theorem GInv.next (h : GInv w r g c w') (hb : Below w'.heap.size w' w2) : GInv w r g c w2 := ⟨h.res.below hb h.res.lt, h.cur.below hb h.cur.lt, h.below.trans (hb.mono h.below.size)⟩
theorem GInv.set (h : GInv w r g c w') (hrg : r ≠ g) (hg : w.heap.size ≤ g) (i : Nat) (u : Value) (d : Ck.C) (hd : Blk6 (w'.setCell ⟨g, i, none⟩ u) g d) : GInv w r g d (w'.setCell ⟨g, i, none⟩ u) :=
  ⟨h.res.other hrg u, hd, h.below.setCell (p := ⟨g, i, none⟩) hg u⟩
end
end Go.Proofs.YtpdilhnbbokipaaDoor
