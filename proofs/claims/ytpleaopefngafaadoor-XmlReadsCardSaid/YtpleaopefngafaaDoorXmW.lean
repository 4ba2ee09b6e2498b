/- That two elements are one, the document's Same: for any two that read as the same tree. -/
import Derived.Test.YtpleaopefngafaaDoorXmV
import Derived.StillTailTactics
namespace Go.Proofs.YtpleaopefngafaaDoor
set_option maxRecDepth 8000
open Go.RowKit

theorem PCells.reads {w : World} {bd : Nat} {A : Option Addr} {l : List Pct.PairL} (h : PCells w bd A l) (c : Nat) : PReads w bd (.slice A l.length c) l := ⟨A, c, rfl, h⟩
theorem refPairs_same (A A' : Option Addr) (c c' n : Nat) (l : List Pct.PairL) (w : World) (hn : l.length = n) (hl : PCells w w.heap.size A l) (hm : PCells w w.heap.size A' l) (hb : n ≤ 1099511627776) :
    Calls Tryd.prog 16 #[.slice A n c, .slice A' n c'] w fun e w' => e = .returned (.bool true) ∧ ∃ q, w' = w.drewN q := by
  subst hn
  refine (pairs_any _ _ l l w (hl.reads c) (hm.reads c') hb).mono ?_
  rintro e w' ⟨rfl, h⟩
  exact ⟨by simp, h⟩

def SameRel (W : World) (i : Value) (wr : World) (m : Nat) : Prop := ∃ k : Nat, k ≤ m ∧ i = .int .i64 (k : Int) ∧ Below W.heap.size W wr

set_option maxHeartbeats 2000000 in
theorem refSame_any (M : Nat) : ∀ (n : Xm.N), Xm.size n ≤ M → ∀ (v v' : Value) (w : World), Tr w w.heap.size n v → Tr w w.heap.size n v' → All (Lim 1099511627776) n →
    Calls Tryd.prog 9 #[v, v'] w fun e w' => e = .returned (.bool true) ∧ Below w.heap.size w w' := by
  induction M with
  | zero =>
    intro n hM
    exfalso
    cases n with
    | mk nm ats tx ks => rw [Xm.size] at hM; omega
  | succ M ih =>
    intro n hM v v' w ht ht' hL
    obtain ⟨A, ca, K, ck, hv, hpc, hkids⟩ := ht.form
    obtain ⟨A', ca', K', ck', hv', hpc', hkids'⟩ := ht'.form
    subst hv hv'
    unfold nV
    obtain ⟨m, hm⟩ : ∃ m, n.kids.length = m := ⟨_, rfl⟩
    have hm63 : m ≤ 1099511627776 := by have := hL.here.2.1; omega
    obtain ⟨na, hna⟩ : ∃ m, n.attrs.length = m := ⟨_, rfl⟩
    have hna63 : na ≤ 1099511627776 := by have := hL.here.1; omega
    obtain ⟨nn, hnn⟩ : ∃ y, n.name = y := ⟨_, rfl⟩
    obtain ⟨nt, hnt⟩ : ∃ y, n.text = y := ⟨_, rfl⟩
    rw [hm, hna, hnn, hnt]
    have HM := Lib.hid hm
    have HNA := Lib.hid hna
    clear hm hna hnn hnt ht ht'
    go_enter Tryd.func9, Tryd.ntmps9
    go_wp2_with fail
    obtain ⟨W, hW⟩ : ∃ W, W = (w.alloc (.cells #[.string (S nn), .slice A na ca, .string (S nt), .slice K m ck] 26)).alloc (.cells #[.string (S nn), .slice A' na ca', .string (S nt), .slice K' m ck'] 26) := ⟨_, rfl⟩
    rw [← hW]
    obtain ⟨g, hg⟩ : ∃ g, g = w.heap.size := ⟨_, rfl⟩
    obtain ⟨g', hg'⟩ : ∃ g', g' = w.heap.size + 1 := ⟨_, rfl⟩
    rw [← hg', ← hg]
    have hb0 : Below w.heap.size w W := by rw [hW]; exact ((Below.refl _ _).alloc (Nat.le_refl _) _).alloc (by simp) _
    have hbox1 : Box W g' (.string (S nn)) (.slice A' na ca') (.string (S nt)) (.slice K' m ck') := by rw [hW]; exact Box.new _ _ _ _ _ _ g' (by rw [hg']; simp)
    have hbox0 : Box W g (.string (S nn)) (.slice A na ca) (.string (S nt)) (.slice K m ck) := by
      rw [hW]
      refine (Box.new w _ _ _ _ _ g hg).keep (bd := w.heap.size + 1) ((Below.refl _ _).alloc (by simp) _) (by omega)
    have hgW : g < W.heap.size ∧ g' < W.heap.size := by rw [hW, hg, hg']; simp; omega
    have hwW : w.heap.size ≤ W.heap.size := hb0.size
    have HG := Lib.hid (And.intro hg hg')
    have hpW : PCells W W.heap.size A n.attrs := (hpc.keepB hb0 (Nat.le_refl _)).moreB hwW
    have hpW' : PCells W W.heap.size A' n.attrs := (hpc'.keepB hb0 (Nat.le_refl _)).moreB hwW
    clear hW hg hg'
    obtain ⟨b00, b01, b02, b03⟩ := hbox0
    obtain ⟨b10, b11, b12, b13⟩ := hbox1
    refine (refPairs_same A A' ca ca' na n.attrs W HNA.out hpW hpW' hna63).mono ?_
    rintro e w' ⟨rfl, q, rfl⟩
    have hbq : Below W.heap.size W (W.drewN q) := below_drewN (Below.refl _ _) q
    obtain ⟨W2, hW2⟩ : ∃ W2, W2 = W.drewN q := ⟨_, rfl⟩
    rw [← hW2]
    rw [← hW2] at hbq
    have hbox0 : Box W2 g (.string (S nn)) (.slice A na ca) (.string (S nt)) (.slice K m ck) := Box.keep ⟨b00, b01, b02, b03⟩ hbq hgW.1
    have hbox1 : Box W2 g' (.string (S nn)) (.slice A' na ca') (.string (S nt)) (.slice K' m ck') := Box.keep ⟨b10, b11, b12, b13⟩ hbq hgW.2
    have hb2 : Below w.heap.size w W2 := hb0.trans (hbq.mono hwW)
    have hg2 : g < W2.heap.size ∧ g' < W2.heap.size := ⟨Nat.lt_of_lt_of_le hgW.1 hbq.size, Nat.lt_of_lt_of_le hgW.2 hbq.size⟩
    have hwW2 : w.heap.size ≤ W2.heap.size := hb2.size
    clear hW2 hbq b00 b01 b02 b03 b10 b11 b12 b13 hb0 hgW hwW hpW hpW' hpc hpc'
    obtain ⟨b00, b01, b02, b03⟩ := hbox0
    obtain ⟨b10, b11, b12, b13⟩ := hbox1
    go_wp2_with fail
    go_loopw [5] (fun i wr => SameRel W2 i wr m) (fun i _ => m - (intOf i).toNat)
    case atStart => exact ⟨0, Nat.zero_le _, rfl, Below.refl _ _⟩
    case round =>
      obtain ⟨k, hk, rfl, hbr⟩ := hrel
      have hbx := (Box.keep ⟨b00, b01, b02, b03⟩ hbr hg2.1).c3
      have hbx' := (Box.keep ⟨b10, b11, b12, b13⟩ hbr hg2.2).c3
      have hbw : Below w.heap.size w wr := hb2.trans (hbr.mono hwW2)
      by_cases hlt : k < m
      · have hml := HM.out
        have hkl : k < n.kids.length := by omega
        obtain ⟨b, off, rfl, hbl, htl⟩ := hkids (by omega)
        obtain ⟨b', off', rfl, hbl', htl'⟩ := hkids' (by omega)
        obtain ⟨A1, ca1, K1, ck1, e0, e1, e2, e3, htk⟩ := TrL.get n.kids 0 k hkl htl
        obtain ⟨A2, ca2, K2, ck2, f0, f1, f2, f3, htk'⟩ := TrL.get n.kids 0 k hkl htl'
        rw [Nat.zero_add] at e0 e1 e2 e3 f0 f1 f2 f3
        have hcell : ∀ j, wr.cell? ⟨b, j, none⟩ = w.cell? ⟨b, j, none⟩ := fun j => hbw.cell (p := ⟨b, j, none⟩) hbl
        have hcell' : ∀ j, wr.cell? ⟨b', j, none⟩ = w.cell? ⟨b', j, none⟩ := fun j => hbw.cell (p := ⟨b', j, none⟩) hbl'
        have c0 := (hcell _).trans e0
        have c1 := (hcell _).trans e1
        have c2 := (hcell _).trans e2
        have c3 := (hcell _).trans e3
        have d0 := (hcell' _).trans f0
        have d1 := (hcell' _).trans f1
        have d2 := (hcell' _).trans f2
        have d3 := (hcell' _).trans f3
        have hsz := size_kid hkl
        have HSZ : Hid (Xm.size n.kids[k] ≤ M) := Lib.hid (by omega)
        have HLK := Lib.hid (hL.kid hkl)
        have hbd : Below w.heap.size w wr.drew := hbw.drew
        have HT := Lib.hid (Tr.moreB hbd.size _ _ (Tr.keepB hbd (Nat.le_refl _) _ _ htk))
        have HT' := Lib.hid (Tr.moreB hbd.size _ _ (Tr.keepB hbd (Nat.le_refl _) _ _ htk'))
        obtain ⟨x, hx⟩ : ∃ x, x = n.kids[k] := ⟨_, rfl⟩
        rw [← hx] at HT HT' HSZ HLK c0 c1 c2 c3 d0 d1 d2 d3
        clear hx e0 e1 e2 e3 f0 f1 f2 f3 htk htk' htl htl' hcell hcell' hsz hml hkids hkids'
        have hk0 : (0 : Int) ≤ (k : Int) := by omega
        have hkI : (k : Int) < (m : Int) := by omega
        obtain ⟨nx, hnx⟩ : ∃ y, y = x.name := ⟨_, rfl⟩
        obtain ⟨ax, hax⟩ : ∃ y, y = x.attrs.length := ⟨_, rfl⟩
        obtain ⟨tx, htx⟩ : ∃ y, y = x.text := ⟨_, rfl⟩
        obtain ⟨kx, hkx⟩ : ∃ y, y = x.kids.length := ⟨_, rfl⟩
        rw [← hnx, ← hax, ← htx, ← hkx] at HT HT'
        rw [← hnx] at c0 d0
        rw [← hax] at c1 d1
        rw [← htx] at c2 d2
        rw [← hkx] at c3 d3
        clear hnx hax htx hkx
        have HIH := Lib.hid (ih x HSZ.out _ _ wr.drew HT.out HT'.out HLK.out)
        have HBR := Lib.hid hbr.drew
        clear hbr ih hbd
        unfold nV at HIH
        clear b00 b01 b02 b03 b10 b11 b12 b13
        go_wp2_with fail
        go_still_tail 10, (by kernel_rfl)
        change wpList _ _ _ _ _ wr.drew
        generalize wr.drew = wd at HIH HBR ⊢
        go_wp2_with fail
        refine HIH.out.mono ?_
        rintro e w3 ⟨rfl, hb3⟩
        have hb4 := HBR.out.trans (hb3.mono HBR.out.size)
        clear hb3
        go_wp2_with fail
        go_roundw
        case rel => exact ⟨k + 1, by omega, by go_num, hb4⟩
        case measure => simp [intOf]; omega
      · clear ih
        go_wp2_with fail
        go_ret
        exact ⟨rfl, hbw⟩
end Go.Proofs.YtpleaopefngafaaDoor
