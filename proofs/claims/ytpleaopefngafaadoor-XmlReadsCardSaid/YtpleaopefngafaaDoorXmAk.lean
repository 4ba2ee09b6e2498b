/- That the package is awake: what the five laws ask first. No condition. -/
import Derived.Test.YtpleaopefngafaaDoorXmRd
import Derived.Test.YtpleaopefngafaaDoorXmW
namespace Go.Proofs.YtpleaopefngafaaDoor
set_option maxRecDepth 8000
open Go.RowKit

def exN : Xm.N := .mk [97] [([120], [49])] [60, 38] []
def exT : List UInt8 := [60, 97, 32, 120, 61, 34, 49, 34, 62, 38, 108, 116, 59, 38, 97, 109, 112, 59, 60, 47, 97, 62]
theorem ex_wr : Xm.wr exN = exT := by decide +kernel
theorem ex_right : Xm.right exN = true := by decide +kernel
theorem ex_write : Xm.write exN = some exT := by unfold Xm.write; rw [ex_right, ex_wr]; rfl
theorem ex_read : Xm.read exT = some exN := (Xm.read_is _ _).2 ⟨ex_right, ex_wr⟩

theorem ex_tr (w0 : World) (gA : Nat) (h : BP w0 gA (.string ⟨#[120]⟩) (.string ⟨#[49]⟩)) : Tr w0 w0.heap.size exN (.agg #[.string ⟨#[97]⟩, .slice (some ⟨gA, 0, none⟩) 1 1, .string ⟨#[60, 38]⟩, .slice none 0 0]) := by
  unfold exN Tr
  refine ⟨some ⟨gA, 0, none⟩, 1, none, 0, rfl, fun _ => ⟨gA, 0, rfl, h.lt, fun k hk => ?_⟩, fun hn => absurd hn (by simp)⟩
  obtain rfl : k = 0 := by simpa using hk
  exact ⟨h.c0, h.c1⟩
theorem ex_lim : All (Lim 1099511627776) exN := limits (by rw [ex_wr]; decide)

set_option maxHeartbeats 1600000 in
theorem awake_any (w : World) (hE : EnvX w) : Calls Tryd.prog 6 #[] w fun e w' => e = .returned (.bool true) ∧ Below w.heap.size w w' := by
  obtain ⟨w0, hw0⟩ : ∃ w0, w0 = (w.alloc (.cells #[.string ⟨#[120]⟩, .string ⟨#[49]⟩] 38)).alloc (.cells #[.string ⟨#[97]⟩, .slice (some ⟨w.heap.size, 0, none⟩) 1 1, .string ⟨#[60, 38]⟩, .slice none 0 0] 26) := ⟨_, rfl⟩
  obtain ⟨gA, hgA⟩ : ∃ gA, gA = w.heap.size := ⟨_, rfl⟩
  obtain ⟨gN, hgN⟩ : ∃ gN, gN = w.heap.size + 1 := ⟨_, rfl⟩
  have hP0 : BP w0 gA (.string ⟨#[120]⟩) (.string ⟨#[49]⟩) := by
    have h1 : BP (w.alloc (.cells #[.string ⟨#[120]⟩, .string ⟨#[49]⟩] 38)) gA (.string ⟨#[120]⟩) (.string ⟨#[49]⟩) := by rw [hgA]; exact heap_alloc_new w _
    rw [hw0]
    exact h1.next ((Below.refl _ _).alloc (Nat.le_refl _) _)
  have hN0 : BN w0 gN (.string ⟨#[97]⟩) (.slice (some ⟨gA, 0, none⟩) 1 1) (.string ⟨#[60, 38]⟩) (.slice none 0 0) := by
    rw [hw0, hgN, hgA]
    have := heap_alloc_new (w.alloc (.cells #[.string ⟨#[120]⟩, .string ⟨#[49]⟩] 38)) (.cells #[.string ⟨#[97]⟩, .slice (some ⟨w.heap.size, 0, none⟩) 1 1, .string ⟨#[60, 38]⟩, .slice none 0 0] 26)
    simpa [BN] using this
  have hb0 : Below w.heap.size w w0 := by rw [hw0]; exact ((Below.refl _ _).alloc (Nat.le_refl _) _).alloc (by simp) _
  have hE0 := hE.next hb0
  have HWR : Hid (Calls Tryd.prog 12 #[.agg #[.string ⟨#[97]⟩, .slice (some ⟨gA, 0, none⟩) 1 1, .string ⟨#[60, 38]⟩, .slice none 0 0]] w0 fun e w' => e = .returned (.tuple #[.string ⟨#[60, 97, 32, 120, 61, 34, 49, 34, 62, 38, 108, 116, 59, 38, 97, 109, 112, 59, 60, 47, 97, 62]⟩, .int .i64 0]) ∧ Below w0.heap.size w0 w') := Lib.hid (by
    have := writeX_any exN _ w0 hE0 (ex_tr w0 gA hP0) ex_lim (by rw [ex_wr]; decide)
    rw [ex_write] at this
    exact this)
  have HRD : Hid (∀ w' : World, EnvX w' → Calls Tryd.prog 7 #[.string ⟨#[60, 97, 32, 120, 61, 34, 49, 34, 62, 38, 108, 116, 59, 38, 97, 109, 112, 59, 60, 47, 97, 62]⟩] w' fun e w'' => (∃ A ca K ck, e = .returned (.tuple #[.agg #[.string (S exN.name), .slice A exN.attrs.length ca, .string (S exN.text), .slice K exN.kids.length ck], .int .i64 0]) ∧ Tr w'' w''.heap.size exN (.agg #[.string (S exN.name), .slice A exN.attrs.length ca, .string (S exN.text), .slice K exN.kids.length ck])) ∧ Below w'.heap.size w' w'') := Lib.hid (fun w' h => by
    refine (read_any exT w' h (by decide)).mono ?_
    rintro e w'' ⟨hp, hb⟩
    rw [ex_read] at hp
    obtain ⟨v, rfl, ht⟩ := hp
    obtain ⟨A, ca, K, ck, hv, _⟩ := ht.form
    subst hv
    exact ⟨⟨A, ca, K, ck, rfl, ht⟩, hb⟩)
  have hgN2 : w.heap.size ≤ gN := by omega
  have HW0 := Lib.hid hw0
  have HGA := Lib.hid hgA
  have HGN := Lib.hid hgN
  clear hw0 hgA hgN
  go_enter Tryd.func6, Tryd.ntmps6
  go_wp2_with fail
  rw [← HW0.out, ← HGN.out, ← HGA.out]
  refine HWR.out.mono ?_
  rintro e w1 ⟨rfl, hb1⟩
  have hP1 := hP0.next hb1
  have hN1 := hN0.next hb1
  have hbw1 := hb0.trans (hb1.mono hb0.size)
  have hE1 := hE0.next hb1
  clear hP0 hN0 hb0 hb1 hE0
  go_wp2_with fail
  refine (HRD.out _ hE1).mono ?_
  rintro e w2 ⟨⟨A, ca, K, ck, rfl, ht⟩, hb2⟩
  have hP2 := hP1.next hb2
  have hN2 := hN1.next hb2
  have hbw2 := hbw1.trans (hb2.mono hbw1.size)
  clear hP1 hN1 hbw1 hb2 hE1
  obtain ⟨w3, hw3⟩ : ∃ w3, w3 = w2.alloc (.cells #[.string (S exN.name), .slice A exN.attrs.length ca, .string (S exN.text), .slice K exN.kids.length ck] 26) := ⟨_, rfl⟩
  obtain ⟨gM, hgM⟩ : ∃ gM, gM = w2.heap.size := ⟨_, rfl⟩
  have hM3 : BN w3 gM (.string (S exN.name)) (.slice A exN.attrs.length ca) (.string (S exN.text)) (.slice K exN.kids.length ck) := by rw [hw3, hgM]; exact heap_alloc_new w2 _
  have hb3 : Below w2.heap.size w2 w3 := by rw [hw3]; exact (Below.refl _ _).alloc (Nat.le_refl _) _
  have hP3 := hP2.next hb3
  have hN3 := hN2.next hb3
  have hbw3 := hbw2.trans (hb3.mono hbw2.size)
  have HS : Hid (Calls Tryd.prog 9 #[.agg #[.string (S exN.name), .slice A exN.attrs.length ca, .string (S exN.text), .slice K exN.kids.length ck], .agg #[.string ⟨#[97]⟩, .slice (some ⟨gA, 0, none⟩) 1 1, .string ⟨#[60, 38]⟩, .slice none 0 0]] w3 fun e w' => e = .returned (.bool true) ∧ Below w3.heap.size w3 w') := Lib.hid (refSame_any _ exN (Nat.le_refl _) _ _ w3 (ht.next hb3) (ex_tr w3 gA hP3) ex_lim)
  have z0 : ∀ o : Obj, (w2.alloc o).cell? ⟨gN, 0, none⟩ = some (.string ⟨#[97]⟩) := fun o => (hN2.alloc o).c0
  have z1 : ∀ o : Obj, (w2.alloc o).cell? ⟨gN, 1, none⟩ = some (.slice (some ⟨gA, 0, none⟩) 1 1) := fun o => (hN2.alloc o).c1
  have z2 : ∀ o : Obj, (w2.alloc o).cell? ⟨gN, 2, none⟩ = some (.string ⟨#[60, 38]⟩) := fun o => (hN2.alloc o).c2
  have z3 : ∀ o : Obj, (w2.alloc o).cell? ⟨gN, 3, none⟩ = some (.slice none 0 0) := fun o => (hN2.alloc o).c3
  have y0 := hM3.c0
  have y1 := hM3.c1
  have y2 := hM3.c2
  have y3 := hM3.c3
  have HW3 := Lib.hid hw3
  have HGM := Lib.hid hgM
  clear hw3 hgM hP2 hN2 hbw2 hb3 hP3 hN3 hM3 ht
  generalize S exN.name = en at HS HW3 y0 ⊢
  generalize S exN.text = et at HS HW3 y2 ⊢
  generalize exN.attrs.length = ea at HS HW3 y1 ⊢
  generalize exN.kids.length = ek at HS HW3 y3 ⊢
  go_wp2_with fail
  rw [← HW3.out]
  refine HS.out.mono ?_
  rintro e w4 ⟨rfl, hb4⟩
  have hbw4 := hbw3.trans (hb4.mono hbw3.size)
  go_wp2_with fail
  go_ret
  exact ⟨rfl, hbw4⟩
end Go.Proofs.YtpleaopefngafaaDoor
