/- TicketMints, its arguments read. -/
import Derived.Test.YtihfpockmginfaaDoorTkMi
namespace Go.Proofs.YtihfpockmginfaaDoor
set_option maxRecDepth 8000
open Go.ChangeShapes Go.WideShapes Go.ChangeAt Go.WideMaps Go.WideElems Go.RowKit

theorem open_nil12 {H : Type} {enc : TypeId × Value → H} {W : World} {base0 : Nat} {held : Bool} {fuel : Nat} {a0 : Option Addr} {len cap : Nat} {x : DataW H × List MemPlace} {sp : Nat → Bool}
    (hf : DataW.trod enc Tryd.prog W base0 sp held fuel 37 [.slice a0 len cap] = some x) : a0 = none → len = 0 ∧ cap = 0 := by
  intro h
  subst h
  rcases open_ints Tryd.underlying37 Tryd.underlying22 Tryd.cellsU64 hf with ⟨hcs, _⟩ | ⟨a, len', cap', zs, hcs, _⟩
  · simp only [List.cons.injEq, Value.slice.injEq, and_true, true_and] at hcs
    exact hcs
  · simp only [List.cons.injEq, Value.slice.injEq, and_true] at hcs
    exact absurd hcs.1 (by simp)
theorem nat_list (l : List Int) (h : ∀ z ∈ l, (Lit.int .u64 z).wf = true) : ∃ L : List Nat, l = L.map (fun (z : Nat) => (z : Int)) ∧ ∀ z ∈ L, z < 18446744073709551616 := by
  refine ⟨l.map Int.toNat, ?_, fun z hz => ?_⟩
  · rw [List.map_map]
    refine (List.map_id l).symm.trans (List.map_congr_left fun z hz => ?_)
    obtain ⟨n, rfl, _⟩ := u64_nat (h z hz)
    rfl
  · obtain ⟨y, hy, rfl⟩ := List.mem_map.1 hz
    obtain ⟨n, rfl, hn⟩ := u64_nat (h y hy)
    exact hn
theorem IC.nat {w : World} {B : Nat} {A : Option Addr} {L : List Nat} (h : IC .u64 w B A (L.map (fun (z : Nat) => (z : Int)))) : UC w B A L := fun hl => by
  obtain ⟨b, off, h1, h2, h3⟩ := h (by simpa using hl)
  refine ⟨b, off, h1, h2, fun j hj => ?_⟩
  have := h3 j (by simpa using hj)
  rw [List.getElem_map] at this
  exact this
theorem ticketMints_at (A0 A1 A2 A3 : Option Addr) (c0 c1 c2 c3 : Nat) (x0 x1 ks : List Int) (tk : List Bool) (w : World) (hE : EnvT w)
    (h0 : IC .u64 w w.heap.size A0 x0) (n0 : A0 = none → x0.length = 0 ∧ c0 = 0) (k0 : ∀ z ∈ x0, (Lit.int .u64 z).wf = true) (h1 : IC .u64 w w.heap.size A1 x1) (n1 : A1 = none → x1.length = 0 ∧ c1 = 0) (k1 : ∀ z ∈ x1, (Lit.int .u64 z).wf = true)
    (h2 : IC .i64 w w.heap.size A2 ks) (h3 : LCells w w.heap.size A3 tk) :
    Calls Tryd.prog 7 #[.slice A0 x0.length c0, .slice A1 x1.length c1, .slice A2 ks.length c2, .slice A3 tk.length c3] w (AwakePost w) := by
  obtain ⟨D, rfl, d0⟩ := nat_list x0 k0
  obtain ⟨M, rfl, d1⟩ := nat_list x1 k1
  rw [List.length_map] at n0 n1 ⊢
  rw [List.length_map]
  exact ticketMints_any A0 A1 A2 A3 c0 c1 c2 c3 D M ks tk w hE h0.nat n0 d0 h1.nat n1 d1 h2 h3
end Go.Proofs.YtihfpockmginfaaDoor
