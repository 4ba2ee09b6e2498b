/- How many are left, the document's Few: for any element that reads as a tree. -/
import Derived.Test.YtpleaopefngafaaDoorXmU
namespace Go.Proofs.YtpleaopefngafaaDoor
set_option maxRecDepth 8000
open Go.RowKit

/-- A block of four cells. -/
structure Box (w : World) (g : Nat) (v0 v1 v2 v3 : Value) : Prop where
  c0 : w.cell? ⟨g, 0, none⟩ = some v0
  c1 : w.cell? ⟨g, 1, none⟩ = some v1
  c2 : w.cell? ⟨g, 2, none⟩ = some v2
  c3 : w.cell? ⟨g, 3, none⟩ = some v3
theorem Box.new (w : World) (v0 v1 v2 v3 : Value) (t : TypeId) (g : Nat) (hg : g = w.heap.size) : Box (w.alloc (.cells #[v0, v1, v2, v3] t)) g v0 v1 v2 v3 := by
  subst hg
  exact ⟨World.cell?_alloc_new w _ t 0, World.cell?_alloc_new w _ t 1, World.cell?_alloc_new w _ t 2, World.cell?_alloc_new w _ t 3⟩
theorem Box.keep {w w' : World} {g bd : Nat} {v0 v1 v2 v3 : Value} (h : Box w g v0 v1 v2 v3) (hb : Below bd w w') (hg : g < bd) : Box w' g v0 v1 v2 v3 :=
  ⟨(hb.cell (p := ⟨g, 0, none⟩) hg).trans h.c0, (hb.cell (p := ⟨g, 1, none⟩) hg).trans h.c1, (hb.cell (p := ⟨g, 2, none⟩) hg).trans h.c2, (hb.cell (p := ⟨g, 3, none⟩) hg).trans h.c3⟩

def FewRel (W : World) (n : Xm.N) (d r : Nat) (q i : Value) (wr : World) : Prop :=
  ∃ k c : Nat, k ≤ n.kids.length ∧ i = .int .i64 (k : Int) ∧ q = .int .i64 (c : Int) ∧ c ≤ r ∧ Xm.fewL (n.kids.take k) d r = some c ∧ Below W.heap.size W wr

set_option maxHeartbeats 2000000 in
theorem refFew_any (M : Nat) : ∀ (n : Xm.N), Xm.size n ≤ M → ∀ (d r : Nat) (v : Value) (w : World), Tr w w.heap.size n v → All (Lim 9223372036854775807) n → d ≤ 1000000 → r ≤ 1000000 →
    Calls Tryd.prog 17 #[v, .int .i64 (r : Int), .int .i64 (d : Int)] w fun e w' => e = .returned (.int .i64 (leftI (Xm.few n d r))) ∧ Below w.heap.size w w' := by
  induction M with
  | zero =>
    intro n hM
    exfalso
    cases n with
    | mk nm ats tx ks => rw [Xm.size] at hM; omega
  | succ M ih =>
    intro n hM d r v w ht hL hd hr
    obtain ⟨A, ca, K, ck, hv, _, hkids⟩ := ht.form
    subst hv
    unfold nV
    obtain ⟨m, hm⟩ : ∃ m, n.kids.length = m := ⟨_, rfl⟩
    have hm63 : m ≤ 9223372036854775807 := by have := hL.here.2.1; omega
    rw [hm]
    obtain ⟨na, hna⟩ : ∃ m, n.attrs.length = m := ⟨_, rfl⟩
    rw [hna]
    obtain ⟨nn, hnn⟩ : ∃ y, n.name = y := ⟨_, rfl⟩
    obtain ⟨nt, hnt⟩ : ∃ y, n.text = y := ⟨_, rfl⟩
    rw [hnn, hnt]
    have HM := Lib.hid hm
    clear hm hna hnn hnt
    by_cases hz : d = 0 ∨ r = 0
    · have hF : Xm.few n d r = none := by rw [few_eq, if_pos hz]
      rw [hF]
      have ho : (decide (r = 0) || decide (d = 0)) = true := by
        simp only [Bool.or_eq_true, decide_eq_true_eq]
        omega
      obtain ⟨p1, d1⟩ : ∃ p, decide (r = 0) = p := ⟨_, rfl⟩
      obtain ⟨p2, d2⟩ : ∃ p, decide (d = 0) = p := ⟨_, rfl⟩
      rw [d1, d2] at ho
      clear hz
      go_enter Tryd.func17, Tryd.ntmps17
      cases p1 <;> cases p2 <;> first
        | (exfalso; revert ho; decide)
        | (go_wp2_with fail; go_ret; exact ⟨rfl, (Below.refl _ _).alloc (Nat.le_refl _) _⟩)
    · have hF : Xm.few n d r = Xm.fewL n.kids (d - 1) (r - 1) := by rw [few_eq, if_neg hz]
      rw [hF]
      have d1 : decide (r = 0) = false := by simpa using (by omega : ¬ r = 0)
      have d2 : decide (d = 0) = false := by simpa using (by omega : ¬ d = 0)
      obtain ⟨r', hr'⟩ : ∃ r', r' = r - 1 := ⟨_, rfl⟩
      obtain ⟨d', hd'⟩ : ∃ d', d' = d - 1 := ⟨_, rfl⟩
      have r1 : (r : Int) - 1 = (r' : Int) := by omega
      have r2 : (d : Int) - 1 = (d' : Int) := by omega
      have hr6 : r' ≤ r := by omega
      have hd6' : d' ≤ 1000000 := by omega
      rw [← hr', ← hd']
      clear hF hz hr' hd'
      go_enter Tryd.func17, Tryd.ntmps17
      go_wp2_with fail
      obtain ⟨W, hW⟩ : ∃ W, W = w.alloc (.cells #[.string (S nn), .slice A na ca, .string (S nt), .slice K m ck] 26) := ⟨_, rfl⟩
      rw [← hW]
      obtain ⟨g, hg⟩ : ∃ g, g = w.heap.size := ⟨_, rfl⟩
      rw [← hg]
      have hbox : Box W g (.string (S nn)) (.slice A na ca) (.string (S nt)) (.slice K m ck) := by rw [hW]; exact Box.new w _ _ _ _ _ g hg
      have hb0 : Below w.heap.size w W := by rw [hW]; exact (Below.refl _ _).alloc (Nat.le_refl _) _
      have hgW : g < W.heap.size := by rw [hW, hg]; simp
      have hwW : w.heap.size ≤ W.heap.size := hb0.size
      clear hW hg
      go_loopw [1, 7] (fun q i wr => FewRel W n d' r' q i wr) (fun _ i _ => m - (intOf i).toNat)
      case atStart => exact ⟨0, r', Nat.zero_le _, rfl, rfl, by omega, by rw [List.take_zero]; rfl, Below.refl _ _⟩
      case round =>
        obtain ⟨k, c, hk, rfl, rfl, hc, hf, hbr⟩ := hrel
        have hml := HM.out
        have hbx := (hbox.keep hbr hgW).c3
        have hbw : Below w.heap.size w wr := hb0.trans (hbr.mono hwW)
        by_cases hlt : k < m
        · have hkl : k < n.kids.length := by omega
          obtain ⟨b, off, rfl, hbl, htl⟩ := hkids (by omega)
          obtain ⟨A', ca', K', ck', e0, e1, e2, e3, htk⟩ := TrL.get n.kids 0 k hkl htl
          rw [Nat.zero_add] at e0 e1 e2 e3
          have hcell : ∀ j, wr.cell? ⟨b, j, none⟩ = w.cell? ⟨b, j, none⟩ := fun j => hbw.cell (p := ⟨b, j, none⟩) hbl
          have c0 := (hcell _).trans e0
          have c1 := (hcell _).trans e1
          have c2 := (hcell _).trans e2
          have c3 := (hcell _).trans e3
          have hsz := size_kid hkl
          have HSZ : Hid (Xm.size n.kids[k] ≤ M) := Lib.hid (by omega)
          have HLK := Lib.hid (hL.kid hkl)
          have HSN := Lib.hid (show Xm.fewL (n.kids.take (k + 1)) d' r' = Xm.few n.kids[k] d' c by
            rw [List.take_succ_eq_append_getElem hkl, fewL_snoc]
            rw [hf]
            rfl)
          have HT := Lib.hid (Tr.moreB hbw.size _ _ (Tr.keepB hbw (Nat.le_refl _) _ _ htk))
          obtain ⟨x, hx⟩ : ∃ x, x = n.kids[k] := ⟨_, rfl⟩
          rw [← hx] at HT HSZ HLK HSN c0 c1 c2 c3
          clear hx e0 e1 e2 e3 htk htl hcell hsz hf hml hkids
          have hk0 : (0 : Int) ≤ (k : Int) := by omega
          have hkI : (k : Int) < (m : Int) := by omega
          obtain ⟨nx, hnx⟩ : ∃ y, y = x.name := ⟨_, rfl⟩
          obtain ⟨ax, hax⟩ : ∃ y, y = x.attrs.length := ⟨_, rfl⟩
          obtain ⟨tx, htx⟩ : ∃ y, y = x.text := ⟨_, rfl⟩
          obtain ⟨kx, hkx⟩ : ∃ y, y = x.kids.length := ⟨_, rfl⟩
          rw [← hnx, ← hax, ← htx, ← hkx] at HT
          rw [← hnx] at c0
          rw [← hax] at c1
          rw [← htx] at c2
          rw [← hkx] at c3
          have hc6 : c ≤ 1000000 := by omega
          clear hnx hax htx hkx
          have HBR := Lib.hid hbr
          clear hbr
          cases hres : Xm.few x d' c with
          | none =>
            have HE : Hid (leftI (Xm.fewL n.kids d' r') = -1) := Lib.hid (by
              have h1 := HSN.out
              rw [hres] at h1
              rw [few_none_of h1]
              rfl)
            have hih := ih x HSZ.out d' c _ _ HT.out HLK.out hd6' hc6
            rw [hres] at hih
            have HI := Lib.hid hih
            clear hih hres
            go_wp2_with fail
            refine HI.out.mono ?_
            rintro e w2 ⟨rfl, hb2⟩
            have hb3 := hbw.trans (hb2.mono hbw.size)
            unfold leftI
            go_wp2_with fail
            go_ret
            exact ⟨by rw [HE.out]; rfl, hb3⟩
          | some c' =>
            have hc' := few_le hres
            have HSN2 : Hid (Xm.fewL (n.kids.take (k + 1)) d' r' = some c') := Lib.hid (by rw [← hres]; exact HSN.out)
            have hih := ih x HSZ.out d' c _ _ HT.out HLK.out hd6' hc6
            rw [hres] at hih
            have HI := Lib.hid hih
            clear hih hres
            go_wp2_with fail
            refine HI.out.mono ?_
            rintro e w2 ⟨rfl, hb2⟩
            have hb4 := HBR.out.trans (hb2.mono HBR.out.size)
            have hc0 : (0 : Int) ≤ (c' : Int) := by omega
            clear hb2
            unfold leftI
            go_wp2_with fail
            go_roundw
            case rel => exact ⟨k + 1, c', by have := HM.out; omega, by go_num, rfl, by omega, HSN2.out, hb4⟩
            case measure => simp [intOf]; omega
        · have HE : Hid (leftI (Xm.fewL n.kids d' r') = (c : Int)) := Lib.hid (by
            rw [List.take_of_length_le (by omega)] at hf
            rw [hf]
            rfl)
          clear hf hml
          go_wp2_with fail
          go_ret
          exact ⟨by rw [HE.out]; rfl, hbw⟩
end Go.Proofs.YtpleaopefngafaaDoor
