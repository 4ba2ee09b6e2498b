/- How a URL that was read, or an error, is answered; a block that holds a URL. -/
import Derived.Test.YtbpeohadgplaaaaDoorUrlH
namespace Go.Proofs.YtbpeohadgplaaaaDoor
set_option maxRecDepth 8000
open Go.RowKit

def zeroU : Url.U := ⟨[], [], 0, [], [], false⟩
def parseRes (r : Except Nat Url.U) : Ending :=
  match r with
  | .ok u => .returned (.tuple #[uV u, .int .i64 0])
  | .error n => .returned (.tuple #[uV zeroU, .int .i64 n])

/-- A block that holds a URL. -/
def BlkU (w : World) (g : Nat) (u : Url.U) : Prop := w.heap[g]? = some (.cells (uCells u) 24 (0, 0))
section
variable {w w' : World} {g : Nat} {u : Url.U}
theorem BlkU.below {B : Nat} (h : BlkU w g u) (hb : Below B w w') (hg : g < B) : BlkU w' g u := (hb.block g hg).trans h
theorem BlkU.c0 (h : BlkU w g u) : w.cell? ⟨g, 0, none⟩ = some (.string (S u.scheme)) := cell_of_row w g 0 _ _ _ h
theorem BlkU.c1 (h : BlkU w g u) : w.cell? ⟨g, 1, none⟩ = some (.string (S u.host)) := cell_of_row w g 1 _ _ _ h
theorem BlkU.c2 (h : BlkU w g u) : w.cell? ⟨g, 2, none⟩ = some (.int .i64 (u.port : Int)) := cell_of_row w g 2 _ _ _ h
theorem BlkU.c3 (h : BlkU w g u) : w.cell? ⟨g, 3, none⟩ = some (.string (S u.path)) := cell_of_row w g 3 _ _ _ h
theorem BlkU.c4 (h : BlkU w g u) : w.cell? ⟨g, 4, none⟩ = some (.string (S u.query)) := cell_of_row w g 4 _ _ _ h
theorem BlkU.c5 (h : BlkU w g u) : w.cell? ⟨g, 5, none⟩ = some (.bool u.ask) := cell_of_row w g 5 _ _ _ h
theorem BlkU.frozen (h : BlkU w g u) (i : Nat) : w.frozen? ⟨g, i, none⟩ = false := by
  unfold BlkU at h
  simp [World.frozen?, h]
end

theorem BlkU.zero {w : World} {g : Nat} (h : BlkU w g zeroU) : w.cell? ⟨g, 0, none⟩ = some (.string ⟨#[]⟩) ∧ w.cell? ⟨g, 1, none⟩ = some (.string ⟨#[]⟩) ∧ w.cell? ⟨g, 2, none⟩ = some (.int .i64 0) ∧ w.cell? ⟨g, 3, none⟩ = some (.string ⟨#[]⟩) ∧ w.cell? ⟨g, 4, none⟩ = some (.string ⟨#[]⟩) ∧ w.cell? ⟨g, 5, none⟩ = some (.bool false) ∧ w.frozen? ⟨g, 0, none⟩ = false ∧ w.frozen? ⟨g, 1, none⟩ = false ∧ w.frozen? ⟨g, 2, none⟩ = false ∧ w.frozen? ⟨g, 3, none⟩ = false ∧ w.frozen? ⟨g, 4, none⟩ = false ∧ w.frozen? ⟨g, 5, none⟩ = false :=
  ⟨h.c0, h.c1, h.c2, h.c3, h.c4, h.c5, h.frozen 0, h.frozen 1, h.frozen 2, h.frozen 3, h.frozen 4, h.frozen 5⟩
theorem below_new {w w' : World} {o : Obj} (hb : Below (w.alloc o).heap.size (w.alloc o) w') : Below w.heap.size w w' := ((Below.refl _ _).alloc (Nat.le_refl _) _).trans (hb.mono (by simp))
theorem below_next {w w1 w2 : World} (h : Below w.heap.size w w1) (hb : Below w1.heap.size w1 w2) : Below w.heap.size w w2 := h.trans (hb.mono h.size)
theorem below_lt {w1 : World} {u : Url.U} {g : Nat} (hU : BlkU w1 g u) : g < w1.heap.size := lt_of_blk hU

end Go.Proofs.YtbpeohadgplaaaaDoor
