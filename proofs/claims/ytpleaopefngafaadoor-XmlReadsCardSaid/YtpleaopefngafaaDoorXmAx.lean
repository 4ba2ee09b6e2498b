/- What package xml's Write answers, for any element that reads as a tree, if its text has at most 2^26 bytes. -/
import Derived.Test.YtpleaopefngafaaDoorXmAw
namespace Go.Proofs.YtpleaopefngafaaDoor
set_option maxRecDepth 8000
open Go.RowKit

theorem EnvX.two {w : World} (h : EnvX w) : 2 ≤ w.heap.size := by
  have := h.lt
  omega
/-- What Write tells. -/
def toldW : Option Xm.Bytes → Value
  | some t => .tuple #[.string (S t), .int .i64 0]
  | none => .tuple #[.string ⟨#[]⟩, .int .i64 1]
theorem wr_ne (n : Xm.N) : Xm.wr n ≠ [] := by
  obtain ⟨m, hm⟩ := Xm.wr_head n
  rw [hm]
  simp

set_option maxHeartbeats 1600000 in
theorem writeX_any (n : Xm.N) (v : Value) (w : World) (hE : EnvX w) (ht : Tr w w.heap.size n v) (hL : All (Lim 1099511627776) n) (hlen : (Xm.wr n).length ≤ 268435455) :
    Calls Tryd.prog 12 #[v] w fun e w' => e = .returned (toldW (Xm.write n)) ∧ Below w.heap.size w w' := by
  obtain ⟨A, ca, K, ck, hv, _, _⟩ := ht.form
  subst hv
  obtain ⟨W, hW⟩ : ∃ W, W = w.alloc (.cells #[.string (S n.name), .slice A n.attrs.length ca, .string (S n.text), .slice K n.kids.length ck] 26) := ⟨_, rfl⟩
  obtain ⟨g, hg⟩ : ∃ g, g = w.heap.size := ⟨_, rfl⟩
  have hbox : Box W g (.string (S n.name)) (.slice A n.attrs.length ca) (.string (S n.text)) (.slice K n.kids.length ck) := by rw [hW]; exact Box.new w _ _ _ _ _ g hg
  have hb0 : Below w.heap.size w W := by rw [hW]; exact (Below.refl _ _).alloc (Nat.le_refl _) _
  have hgW : g < W.heap.size := by rw [hW, hg]; simp
  have HR : Hid (Calls Tryd.prog 11 #[nV n.name A n.attrs.length ca n.text K n.kids.length ck] W fun e w'' => e = .returned (.bool (Xm.right n)) ∧ Below W.heap.size W w'') := Lib.hid (right_any n _ W (ht.next hb0) hL)
  have HW := Lib.hid hW
  have HG := Lib.hid hg
  have HT := Lib.hid ht
  unfold nV at HR HT ⊢
  clear hW hg ht
  obtain ⟨b0, b1, b2, b3⟩ := hbox
  cases hr : Xm.right n with
  | false =>
    have HX : Hid (Xm.write n = none) := Lib.hid (by unfold Xm.write; rw [hr]; rfl)
    rw [hr] at HR
    clear hr
    go_enter Tryd.func12, Tryd.ntmps12
    go_wp2_with fail
    rw [← HW.out, ← HG.out]
    refine HR.out.mono ?_
    rintro e w1 ⟨rfl, hb1⟩
    go_wp2_with fail
    go_ret2
    exact ⟨by rw [HX.out]; rfl, hb0.trans (hb1.mono hb0.size)⟩
  | true =>
    have HX : Hid (Xm.write n = some (Xm.wr n)) := Lib.hid (by unfold Xm.write; rw [hr]; rfl)
    rw [hr] at HR
    clear hr
    go_enter Tryd.func12, Tryd.ntmps12
    go_wp2_with fail
    rw [← HW.out, ← HG.out]
    refine HR.out.mono ?_
    rintro e w1 ⟨rfl, hb1⟩
    obtain ⟨c0, c1, c2, c3⟩ := Box.keep ⟨b0, b1, b2, b3⟩ hb1 hgW
    have hbw := hb0.trans (hb1.mono hb0.size)
    obtain ⟨w2, hw2⟩ : ∃ w2, w2 = w1.alloc (.cells #[.pointer none, .slice none 0 0] 47) := ⟨_, rfl⟩
    obtain ⟨bb, hbb⟩ : ∃ bb, bb = w1.heap.size := ⟨_, rfl⟩
    have hbld : Bld w1.heap.size bb [] w2 := by rw [hw2, hbb]; exact Lib.fresh_isBuilder _ _ w1
    have hb12 : Below w1.heap.size w1 w2 := by rw [hw2]; exact (Below.refl _ _).alloc (Nat.le_refl _) _
    have hs12 : w1.heap.size ≤ w2.heap.size := hb12.size
    have htr : Tr w2 w1.heap.size n (nV n.name A n.attrs.length ca n.text K n.kids.length ck) := by
      have h1 := HT.out.next hbw
      exact Tr.keepB hb12 (Nat.le_refl _) n _ h1
    have hE2 : EnvX w2 := (hE.next hbw).next hb12
    have HC : Hid (Calls Tryd.prog 20 #[.pointer (some ⟨bb, 0, none⟩), nV n.name A n.attrs.length ca n.text K n.kids.length ck] w2 fun e w' => e = .returned (.tuple #[]) ∧ Bld w1.heap.size bb ([] ++ Xm.wr n) w' ∧ Below w1.heap.size w2 w' ∧ Keeps2 w2 w') :=
      Lib.hid (write_any _ n (Nat.le_refl _) w1.heap.size bb [] _ w2 hE2 ((hE.next hbw).two) hs12 htr hL (by simpa using hlen) hbld)
    have HW2 := Lib.hid hw2
    have HBB := Lib.hid hbb
    have hbw2 : Below w.heap.size w w2 := hbw.trans (hb12.mono hbw.size)
    have hg1 : g < w1.heap.size := Nat.lt_of_lt_of_le hgW hb1.size
    have hal : ∀ (o : Obj) (j : Nat), (w1.alloc o).cell? ⟨g, j, none⟩ = w1.cell? ⟨g, j, none⟩ := fun o j => World.cell?_alloc_lt w1 o ⟨g, j, none⟩ hg1
    have d0 : ∀ o : Obj, (w1.alloc o).cell? ⟨g, 0, none⟩ = some (.string (S n.name)) := fun o => (hal o 0).trans c0
    have d1 : ∀ o : Obj, (w1.alloc o).cell? ⟨g, 1, none⟩ = some (.slice A n.attrs.length ca) := fun o => (hal o 1).trans c1
    have d2 : ∀ o : Obj, (w1.alloc o).cell? ⟨g, 2, none⟩ = some (.string (S n.text)) := fun o => (hal o 2).trans c2
    have d3 : ∀ o : Obj, (w1.alloc o).cell? ⟨g, 3, none⟩ = some (.slice K n.kids.length ck) := fun o => (hal o 3).trans c3
    have HSW : Hid (w.heap.size ≤ w1.heap.size) := Lib.hid hbw.size
    unfold nV at HC
    clear hw2 hbb b0 b1 b2 b3 hb1 hal htr
    go_wp2_with fail
    rw [← HW2.out, ← HBB.out]
    refine HC.out.mono ?_
    rintro e w5 ⟨rfl, hb5, hbl5, _⟩
    rw [List.nil_append] at hb5
    have hbw5 : Below w.heap.size w w5 := hbw2.trans (hbl5.mono HSW.out)
    go_wp2_with fail
    refine (string_some w1.heap.size bb (Xm.wr n) w5 hb5 (wr_ne n)).mono ?_
    rintro e w6 ⟨rfl, hb6⟩
    go_wp2_with fail
    go_ret2
    exact ⟨by rw [HX.out]; rfl, hbw5.trans (hb6.mono HSW.out)⟩
end Go.Proofs.YtpleaopefngafaaDoor
