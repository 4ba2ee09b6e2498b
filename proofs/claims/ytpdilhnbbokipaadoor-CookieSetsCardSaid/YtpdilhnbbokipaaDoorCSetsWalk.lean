/- The statement CookieSets answers true, for any cookie and any text, where the variables of the library that it reaches read as their texts lay them. -/
import Derived.Test.YtpdilhnbbokipaaDoorCBackWalk
import Derived.Test.YtpdilhnbbokipaaDoorCt
import Derived.Test.YtpdilhnbbokipaaDoorDb
namespace Go.Proofs.YtpdilhnbbokipaaDoor
set_option maxRecDepth 8000
open Go.RowKit

def HAt (w0 w' : World) : Prop := Below w0.heap.size w0 w'
theorem HAt.drew {w0 w' : World} (h : HAt w0 w') : HAt w0 w'.drew := Below.drew h
theorem HAt.next {w0 w' w2 : World} (h : HAt w0 w') (hb : Below w'.heap.size w' w2) : HAt w0 w2 := Below.trans h (hb.mono (Below.size h))
theorem cell_next {w' w2 : World} {p : Addr} {v : Value} (hb : Below w'.heap.size w' w2) (h : w'.cell? p = some v) : w2.cell? p = some v := (hb.cell (World.block_lt_of_cell? w' _ h)).trans h

set_option maxHeartbeats 6400000 in
theorem cookieSets_any (c : Ck.C) (s0 : ByteArray) (W : World) (he : EnvE W) :
    Calls Tryd.prog 4 #[cV c, .string s0] W (AwakePost W) := by
  obtain ⟨s, rfl⟩ : ∃ t, s0 = S t := ⟨s0.data.toList, rfl⟩
  have b0 := Blk6.new W c
  have hb0 : Below W.heap.size W (W.alloc (.cells #[.string (S c.name), .string (S c.val), .string (S c.path), .int .i64 c.age, .bool c.sec, .bool c.http] 32)) := (Below.refl _ _).alloc (Nat.le_refl _) _
  have hs0 : W.heap.size < (W.alloc (.cells #[.string (S c.name), .string (S c.val), .string (S c.path), .int .i64 c.age, .bool c.sec, .bool c.http] 32)).heap.size := by simp
  go_enter Tryd.func4, Tryd.ntmps4
  go_upto_region 1 with fail
  generalize (W.alloc (.cells #[.string (S c.name), .string (S c.val), .string (S c.path), .int .i64 c.age, .bool c.sec, .bool c.http] 32)) = W0 at b0 hb0 hs0 ⊢
  have HB0 := Lib.hid b0
  have HE := Lib.hid (show ∀ w', Below W0.heap.size W0 w' → EnvE w' from fun w' h => he.next (hb0.trans (h.mono (Nat.le_of_lt hs0))))
  have HEND := Lib.hid (show ∀ w', Below W0.heap.size W0 w' → AwakePost W (.returned (.bool true)) w' from fun w' h => ⟨rfl, hb0.trans (h.mono (Nat.le_of_lt hs0))⟩)
  clear b0 hb0
  go_wp2_with fail
  refine (awake_any W0 (HE.out _ (Below.refl _ _)).env).mono ?_
  rintro e w1 ⟨rfl, hb1⟩
  obtain ⟨d0, d1, d2, d3, d4, d5⟩ := (HB0.out.below hb1 hs0).all
  go_wp2_with fail
  refine (refFewC_any c w1).mono ?_
  rintro e w2 ⟨rfl, hbx⟩
  have hb2 : Below W0.heap.size W0 w2 := hb1.trans (hbx.mono hb1.size)
  clear d0 d1 d2 d3 d4 d5 hbx hb1
  cases hfc : fewC c with
  | false =>
    clear hfc
    go_wp2
    go_ret
    exact HEND.out _ hb2
  | true =>
    by_cases h4 : (S s).size ≤ 400
    · have h4' : s.length ≤ 400 := h4
      have HS2 := Lib.hid (fewC_small2 hfc)
      clear hfc
      obtain ⟨t, n, hres, _⟩ := setRes_parts c
      have hSet := fun w' he' => set_any c w' he' HS2.out
      have hSet2 := fun w' => refSet_any c w' HS2.out
      rw [hres] at hSet hSet2
      clear hres
      obtain ⟨d0, d1, d2, d3, d4, d5⟩ := (HB0.out.below hb2 hs0).all
      go_wp2_with fail
      refine (hSet w2 (HE.out _ hb2).env).mono ?_
      rintro e w3 ⟨rfl, hbx⟩
      have hb3 : Below W0.heap.size W0 w3 := hb2.trans (hbx.mono hb2.size)
      clear d0 d1 d2 d3 d4 d5 hbx hb2 hSet
      obtain ⟨d0, d1, d2, d3, d4, d5⟩ := (HB0.out.below hb3 hs0).all
      go_wp2_with fail
      refine (hSet2 w3).mono ?_
      rintro e w4 ⟨rfl, hbx⟩
      have hb4 : Below W0.heap.size W0 w4 := hb3.trans (hbx.mono hb3.size)
      clear d0 d1 d2 d3 d4 d5 hbx hb3 hSet2
      obtain ⟨x, n2, hres2, _⟩ := readRes_parts (Ck.read s)
      have hRead := read_any s w4 (HE.out _ hb4) (by omega)
      have hRead2 := fun w' => refRead_any s w' (by omega)
      rw [hres2] at hRead
      simp only [Ck.refRead_is] at hRead2
      rw [hres2] at hRead2
      clear hres2
      go_wp2_with fail
      refine hRead.mono ?_
      rintro e w5 ⟨rfl, hbx⟩
      have hb5 : Below W0.heap.size W0 w5 := hb4.trans (hbx.mono hb4.size)
      clear hbx hb4 hRead
      go_upto_region 8 with fail
      have hb6 : Below W0.heap.size W0 (w5.alloc (.cells #[.string (S x.name), .string (S x.val), .string (S x.path), .int .i64 x.age, .bool x.sec, .bool x.http] 32)) := hb5.alloc hb5.size _
      have bx6 := Blk6.new w5 x
      generalize (w5.alloc (.cells #[.string (S x.name), .string (S x.val), .string (S x.path), .int .i64 x.age, .bool x.sec, .bool x.http] 32)) = w6 at hb6 bx6 ⊢
      go_wp2_with fail
      refine (hRead2 w6).mono ?_
      rintro e w7 ⟨rfl, hbx⟩
      have hb7 : Below W0.heap.size W0 w7 := hb6.trans (hbx.mono hb6.size)
      have bx7 := bx6.below hbx bx6.lt
      clear hbx hb6 hRead2 bx6 hb5
      go_upto_region 9 with fail
      have hb8 : Below W0.heap.size W0 (w7.alloc (.cells #[.string (S x.name), .string (S x.val), .string (S x.path), .int .i64 x.age, .bool x.sec, .bool x.http] 32)) := hb7.alloc hb7.size _
      have bx8 := bx7.below ((Below.refl w7.heap.size w7).alloc (Nat.le_refl _) (.cells #[.string (S x.name), .string (S x.val), .string (S x.path), .int .i64 x.age, .bool x.sec, .bool x.http] 32)) bx7.lt
      have by8 := Blk6.new w7 x
      generalize (w7.alloc (.cells #[.string (S x.name), .string (S x.val), .string (S x.path), .int .i64 x.age, .bool x.sec, .bool x.http] 32)) = w8 at hb8 bx8 by8 ⊢
      obtain ⟨c0, c1, c2, c3, c4, c5⟩ := (HB0.out.below hb8 hs0).all
      obtain ⟨p0, p1, p2, p3, p4, p5⟩ := bx8.all
      obtain ⟨q0, q1, q2, q3, q4, q5⟩ := by8.all
      clear bx7 bx8 by8
      have hR1 := fun w' => right_any c w' HS2.out.small
      have hR2 := fun w' => refRight_any c w' HS2.out.small
      generalize Ck.right c = rr at hR1 hR2
      have heq := fun w' : World => run_eq_cookie w' x x
      rw [cEq_self] at heq
      have hgd := fun w' : World => run_eqGuard_agg (P := Tryd.prog) w' .eql 32 (.tmp 65) (.tmp 66) #[.string (S x.name), .string (S x.val), .string (S x.path), .int .i64 x.age, .bool x.sec, .bool x.http] #[.string (S x.name), .string (S x.val), .string (S x.path), .int .i64 x.age, .bool x.sec, .bool x.http] Tryd.guardC
      have hH0 : HAt w8 w8 := Below.refl _ _
      go_region_held3 (fun w' => w'.cell? ⟨W.heap.size, 0, none⟩ = some (.string (S c.name)) ∧ w'.cell? ⟨W.heap.size, 1, none⟩ = some (.string (S c.val)) ∧ w'.cell? ⟨W.heap.size, 2, none⟩ = some (.string (S c.path)) ∧ w'.cell? ⟨W.heap.size, 3, none⟩ = some (.int .i64 c.age) ∧ w'.cell? ⟨W.heap.size, 4, none⟩ = some (.bool c.sec) ∧ w'.cell? ⟨W.heap.size, 5, none⟩ = some (.bool c.http) ∧ w'.cell? ⟨w5.heap.size, 0, none⟩ = some (.string (S x.name)) ∧ w'.cell? ⟨w5.heap.size, 1, none⟩ = some (.string (S x.val)) ∧ w'.cell? ⟨w5.heap.size, 2, none⟩ = some (.string (S x.path)) ∧ w'.cell? ⟨w5.heap.size, 3, none⟩ = some (.int .i64 x.age) ∧ w'.cell? ⟨w5.heap.size, 4, none⟩ = some (.bool x.sec) ∧ w'.cell? ⟨w5.heap.size, 5, none⟩ = some (.bool x.http) ∧ w'.cell? ⟨w7.heap.size, 0, none⟩ = some (.string (S x.name)) ∧ w'.cell? ⟨w7.heap.size, 1, none⟩ = some (.string (S x.val)) ∧ w'.cell? ⟨w7.heap.size, 2, none⟩ = some (.string (S x.path)) ∧ w'.cell? ⟨w7.heap.size, 3, none⟩ = some (.int .i64 x.age) ∧ w'.cell? ⟨w7.heap.size, 4, none⟩ = some (.bool x.sec) ∧ w'.cell? ⟨w7.heap.size, 5, none⟩ = some (.bool x.http) ∧ HAt w8 w')
        (first
          | exact ⟨c0, c1, c2, c3, c4, c5, p0, p1, p2, p3, p4, p5, q0, q1, q2, q3, q4, q5, HAt.drew hH0⟩
          | (go_split_ands
             refine ⟨cell_next hb ‹_›, cell_next hb ‹_›, cell_next hb ‹_›, cell_next hb ‹_›, cell_next hb ‹_›, cell_next hb ‹_›, cell_next hb ‹_›, cell_next hb ‹_›, cell_next hb ‹_›, cell_next hb ‹_›, cell_next hb ‹_›, cell_next hb ‹_›, cell_next hb ‹_›, cell_next hb ‹_›, cell_next hb ‹_›, cell_next hb ‹_›, cell_next hb ‹_›, cell_next hb ‹_›, HAt.next ‹HAt _ _› hb⟩))
        (first
          | (go_at_call 21; refine (hR1 _).mono ?_; rintro e w' ⟨rfl, hb⟩)
          | (go_at_call 22; refine (hR2 _).mono ?_; rintro e w' ⟨rfl, hb⟩))
      rename_i hH
      obtain ⟨_, _, _, _, _, _, _, _, _, _, _, _, _, _, _, _, _, _, hU2⟩ := hH
      have hb9 := hb8.trans (Below.mono hU2 hb8.size)
      go_wp2
      go_ret
      exact HEND.out _ hb9
    · have h4' : (400 : Int) < ((S s).size : Int) := by omega
      clear h4
      go_wp2
      go_ret
      exact HEND.out _ hb2
end Go.Proofs.YtpdilhnbbokipaaDoor
