/- Both trees side by side; what TreePlays asks at each step. No condition but those of size. -/
import Derived.Test.YtfeaonbeklmfgaaGreatDoorXtE
import Derived.Test.YtfeaonbeklmfgaaGreatDoorTrK
import Derived.Test.YtfeaonbeklmfgaaGreatDoorTrL
namespace Go.Proofs.YtfeaonbeklmfgaaGreatDoor
set_option maxRecDepth 8000
open Go.RowKit

/-- The program's tree and the document's, in blocks unlike each other's, both behind w. -/
def PX (w wr : World) (T X rm : Nat) (l l2 : List Rk.R) : Prop :=
  ∃ G1 G2 : Nat → Prop, (∀ x, G1 x → w.heap.size ≤ x ∧ x < wr.heap.size) ∧ (∀ x, G2 x → w.heap.size ≤ x ∧ x < wr.heap.size) ∧ (∀ x, G1 x → ¬ G2 x) ∧ TreeAt G1 wr T rm l ∧ XAt G2 wr X rm l2
theorem PX.keep {w wr w' : World} {T X rm : Nat} {l l2 : List Rk.R} (h : PX w wr T X rm l l2) (hb : Below wr.heap.size wr w') : PX w w' T X rm l l2 := by
  obtain ⟨G1, G2, a1, a2, a3, hT, hX⟩ := h
  have := hb.size
  exact ⟨G1, G2, fun x h => ⟨(a1 x h).1, by have := (a1 x h).2; omega⟩, fun x h => ⟨(a2 x h).1, by have := (a2 x h).2; omega⟩, a3, hT.keep hb, hX.keep hb⟩
theorem PX.trees {w wr : World} {T X rm : Nat} {l l2 : List Rk.R} (h : PX w wr T X rm l l2) : ∃ G1 G2 : Nat → Prop, TreeAt G1 wr T rm l ∧ XAt G2 wr X rm l2 := by
  obtain ⟨G1, G2, _, _, _, hT, hX⟩ := h
  exact ⟨G1, G2, hT, hX⟩
theorem PX.first {w wr w2 : World} {T X rm : Nat} {l2 l' : List Rk.R} {G1 G2 : Nat → Prop} (a1 : ∀ x, G1 x → w.heap.size ≤ x ∧ x < wr.heap.size) (a2 : ∀ x, G2 x → w.heap.size ≤ x ∧ x < wr.heap.size) (a3 : ∀ x, G1 x → ¬ G2 x) (hX : XAt G2 wr X rm l2) (hw : w.heap.size ≤ wr.heap.size)
    (hr : TreeAt (OrT G1 wr.heap.size w2.heap.size) w2 T rm l' ∧ OutT G1 wr w2) : (∀ x, OrT G1 wr.heap.size w2.heap.size x → w.heap.size ≤ x ∧ x < w2.heap.size) ∧ (∀ x, G2 x → w.heap.size ≤ x ∧ x < w2.heap.size) ∧ (∀ x, OrT G1 wr.heap.size w2.heap.size x → ¬ G2 x) ∧ XAt G2 w2 X rm l2 := by
  have hs := hr.2.size
  refine ⟨fun x h => ?_, fun x h => ⟨(a2 x h).1, by have := (a2 x h).2; omega⟩, fun x h h2 => ?_, hX.out hr.2 (fun x hx _ h => a3 x h hx)⟩
  · rcases h with h | h
    · exact ⟨(a1 x h).1, by have := (a1 x h).2; omega⟩
    · omega
  · rcases h with h | h
    · exact a3 x h h2
    · have := (a2 x h2).2
      omega
theorem PX.second {w wr w2 : World} {T X rm : Nat} {l l' : List Rk.R} {G1 G2 : Nat → Prop} (a1 : ∀ x, G1 x → w.heap.size ≤ x ∧ x < wr.heap.size) (a2 : ∀ x, G2 x → w.heap.size ≤ x ∧ x < wr.heap.size) (a3 : ∀ x, G1 x → ¬ G2 x) (hT : TreeAt G1 wr T rm l) (hw : w.heap.size ≤ wr.heap.size)
    (hr : XAt (OrT G2 wr.heap.size w2.heap.size) w2 X rm l' ∧ OutT G2 wr w2) : PX w w2 T X rm l l' := by
  have hs := hr.2.size
  refine ⟨G1, _, fun x h => ⟨(a1 x h).1, by have := (a1 x h).2; omega⟩, fun x h => ?_, fun x h2 h => ?_, hT.out hr.2 (fun x hx _ h => a3 x hx h), hr.1⟩
  · rcases h with h | h
    · exact ⟨(a2 x h).1, by have := (a2 x h).2; omega⟩
    · omega
  · rcases h with h | h
    · exact a3 x h2 h
    · have := (a1 x h2).2
      omega
/-- The document's Texts of two rows of the same texts. -/
theorem texts_rows {w : World} {base base' : Nat} {v v' : Value} {l : List (List UInt8)} (h : SRow base w v l) (h' : SRow base' w v' l) (hl : l.length ≤ 1099511627776) :
    Calls Tryz.prog 16 #[v, v'] w fun e w' => e = .returned (.bool true) ∧ Below w.heap.size w w' := by
  obtain ⟨A, c, rfl, h1⟩ := readsS h
  obtain ⟨A', c', rfl, h2⟩ := readsS h'
  exact (texts_same A A' c c' l l w rfl h1 h2 hl).mono fun e w' h => ⟨by rw [h.1]; simp, by obtain ⟨n, e⟩ := h.2; rw [e]; exact below_drewN (Below.refl _ _) n⟩
/-- An op's eleven cells. -/
structure At11 (w : World) (b : Nat) (o : Tr.O) : Prop where
  c0 : w.cell? ⟨b, 0, none⟩ = some (.int .i64 o.d)
  c1 : w.cell? ⟨b, 1, none⟩ = some (.int .i64 o.r.kind)
  c2 : w.cell? ⟨b, 2, none⟩ = some (.string (S o.r.name))
  c3 : w.cell? ⟨b, 3, none⟩ = some (.string (S o.r.parent))
  c4 : w.cell? ⟨b, 4, none⟩ = some (.string (S o.r.user))
  c5 : w.cell? ⟨b, 5, none⟩ = some (.string (S o.r.service))
  c6 : w.cell? ⟨b, 6, none⟩ = some (.string (S o.r.url))
  c7 : w.cell? ⟨b, 7, none⟩ = some (.int .i64 o.r.made)
  c8 : w.cell? ⟨b, 8, none⟩ = some (.int .i64 o.r.used)
  c9 : w.cell? ⟨b, 9, none⟩ = some (.int .i64 o.r.uses)
  c10 : w.cell? ⟨b, 10, none⟩ = some (.bool o.r.fresh)
theorem At11.of {w : World} {b : Nat} {o : Tr.O} {cs : Array Value} (h : w.heap[b]? = some (.cells cs 32 (0, 0))) (hcs : cs = #[.int .i64 o.d, .int .i64 o.r.kind, .string (S o.r.name), .string (S o.r.parent), .string (S o.r.user), .string (S o.r.service), .string (S o.r.url), .int .i64 o.r.made, .int .i64 o.r.used, .int .i64 o.r.uses, .bool o.r.fresh]) : At11 w b o := by
  subst hcs
  exact ⟨cell_of_row w b 0 _ _ _ h, cell_of_row w b 1 _ _ _ h, cell_of_row w b 2 _ _ _ h, cell_of_row w b 3 _ _ _ h, cell_of_row w b 4 _ _ _ h, cell_of_row w b 5 _ _ _ h, cell_of_row w b 6 _ _ _ h, cell_of_row w b 7 _ _ _ h, cell_of_row w b 8 _ _ _ h, cell_of_row w b 9 _ _ _ h, cell_of_row w b 10 _ _ _ h⟩
end Go.Proofs.YtfeaonbeklmfgaaGreatDoor
