/- What package response's Right answers, for any response with texts of at most 2^30 bytes. -/
import Derived.Test.YtehgigfngelkjaaDoorEa
import Derived.Test.YtehgigfngelkjaaDoorEb
namespace Go.Proofs.YtehgigfngelkjaaDoor
set_option maxRecDepth 8000
open Go.RowKit

namespace Rsp
def lenName : List UInt8 := [67, 111, 110, 116, 101, 110, 116, 45, 76, 101, 110, 103, 116, 104]
def hdrOk (q : Pct.PairL) : Bool := Ck.token q.1 && Req.isText q.2 && !Req.alike q.1 lenName
def top (s : Int) (l : List Pct.PairL) (b : List UInt8) : Bool := !(reason s).isEmpty && decide (l.length ≤ 32) && decide (b.length ≤ 8192)
def right (s : Int) (l : List Pct.PairL) (b : List UInt8) : Bool := top s l b && l.all hdrOk
end Rsp
/-- A block of a pair of texts. -/
def Blk2 (w : World) (g : Nat) (x y : ByteArray) : Prop := w.heap[g]? = some (.cells #[.string x, .string y] 44 (0, 0))
section
variable {w w' : World} {g : Nat} {x y : ByteArray}
theorem Blk2.new (w : World) (x y : ByteArray) : Blk2 (w.alloc (.cells #[.string x, .string y] 44)) w.heap.size x y := heap_alloc_new w _
theorem Blk2.below {B : Nat} (h : Blk2 w g x y) (hb : Below B w w') (hg : g < B) : Blk2 w' g x y := (hb.block g hg).trans h
theorem Blk2.cell0 (h : Blk2 w g x y) : w.cell? ⟨g, 0, none⟩ = some (.string x) := cell_of_row w g 0 _ _ _ h
theorem Blk2.cell1 (h : Blk2 w g x y) : w.cell? ⟨g, 1, none⟩ = some (.string y) := cell_of_row w g 1 _ _ _ h
end

def rspV (s : Int) (hv : Value) (b : List UInt8) : Value := .agg #[.int .i64 s, hv, .string (S b)]
def BlkP (w : World) (g : Nat) (s : Int) (hv : Value) (b : List UInt8) : Prop := w.heap[g]? = some (.cells #[.int .i64 s, hv, .string (S b)] 24 (0, 0))
theorem BlkP.new (w : World) (s : Int) (hv : Value) (b : List UInt8) : BlkP (w.alloc (.cells #[.int .i64 s, hv, .string (S b)] 24)) w.heap.size s hv b := heap_alloc_new w _
theorem BlkP.below {w w' : World} {g B : Nat} {s : Int} {hv : Value} {b : List UInt8} (h : BlkP w g s hv b) (hb : Below B w w') (hg : g < B) : BlkP w' g s hv b := (hb.block g hg).trans h
theorem BlkP.c0 {w : World} {g : Nat} {s : Int} {hv : Value} {b : List UInt8} (h : BlkP w g s hv b) : w.cell? ⟨g, 0, none⟩ = some (.int .i64 s) := cell_of_row w g 0 _ _ _ h
theorem BlkP.c1 {w : World} {g : Nat} {s : Int} {hv : Value} {b : List UInt8} (h : BlkP w g s hv b) : w.cell? ⟨g, 1, none⟩ = some hv := cell_of_row w g 1 _ _ _ h
theorem BlkP.c2 {w : World} {g : Nat} {s : Int} {hv : Value} {b : List UInt8} (h : BlkP w g s hv b) : w.cell? ⟨g, 2, none⟩ = some (.string (S b)) := cell_of_row w g 2 _ _ _ h

theorem reason_to (s : Int) (w : World) (hs : (Lit.int .i64 s).wf = true) :
    Calls Tryd.prog 15 #[.int .i64 s] w fun e w' => e = .returned (.string (S (Rsp.reason s))) ∧ Below w.heap.size w w' :=
  (reason_any s w hs).mono fun _ _ ⟨h1, h2⟩ => ⟨h1, h2 ▸ (Below.refl _ _).alloc (Nat.le_refl _) _⟩

set_option maxHeartbeats 800000 in
theorem right_top (s : Int) (A : Option Addr) (cap : Nat) (l : List Pct.PairL) (b : List UInt8) (w : World) (hs : (Lit.int .i64 s).wf = true) (ht : Rsp.top s l b = false) :
    Calls Tryd.prog 13 #[rspV s (.slice A l.length cap) b] w fun e w' => e = .returned (.bool false) ∧ Below w.heap.size w w' := by
  have hE := S_empty (Rsp.reason s)
  have hR := fun w' => reason_to s w' hs
  unfold Rsp.top at ht
  obtain ⟨x, hx⟩ : ∃ x, x = Rsp.reason s := ⟨_, rfl⟩
  rw [← hx] at ht hE hR
  clear hx
  have hz : (S b).size = b.length := rfl
  obtain ⟨n, hn⟩ : ∃ n, n = b.length := ⟨_, rfl⟩
  rw [← hn] at ht hz
  clear hn
  unfold rspV
  cases h0 : x.isEmpty with
  | true =>
    rw [h0] at hE
    clear ht
    go_enter Tryd.func13, Tryd.ntmps13
    go_wp2_with fail
    refine (hR _).mono ?_
    rintro e w1 ⟨rfl, hb1⟩
    have hb2 : Below w.heap.size w w1 := ((Below.refl w.heap.size w).alloc (Nat.le_refl _) _).trans (hb1.mono (by simp))
    clear hb1
    go_wp2
    go_ret
    exact ⟨rfl, hb2⟩
  | false =>
    rw [h0] at hE
    by_cases h1 : l.length ≤ 32
    · have h2 : ¬ n ≤ 8192 := fun h2 => by rw [h0] at ht; simp [h1, h2] at ht
      have i1 : ¬ ((l.length : Int) > 32) := by omega
      have i2 : (n : Int) > 8192 := by omega
      clear ht
      go_enter Tryd.func13, Tryd.ntmps13
      go_wp2_with fail
      refine (hR _).mono ?_
      rintro e w1 ⟨rfl, hb1⟩
      have hb2 : Below w.heap.size w w1 := ((Below.refl w.heap.size w).alloc (Nat.le_refl _) _).trans (hb1.mono (by simp))
      have B := (BlkP.new w s (.slice A l.length cap) b).below hb1 (by simp)
      have d1 := B.c1
      have d2 := B.c2
      clear hb1 B
      go_wp2
      go_ret
      exact ⟨rfl, hb2⟩
    · have i1 : (l.length : Int) > 32 := by omega
      clear ht
      go_enter Tryd.func13, Tryd.ntmps13
      go_wp2_with fail
      refine (hR _).mono ?_
      rintro e w1 ⟨rfl, hb1⟩
      have hb2 : Below w.heap.size w w1 := ((Below.refl w.heap.size w).alloc (Nat.le_refl _) _).trans (hb1.mono (by simp))
      have B := (BlkP.new w s (.slice A l.length cap) b).below hb1 (by simp)
      have d1 := B.c1
      clear hb1 B
      go_wp2
      go_ret
      exact ⟨rfl, hb2⟩
end Go.Proofs.YtehgigfngelkjaaDoor
