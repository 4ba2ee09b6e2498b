/- Whether an element can be, as the document asks it: own and Right, for any element that reads as a tree and whose texts and lists are of at most 2^40. -/
import Derived.Test.YtpleaopefngafaaDoorXmEq
import Derived.Test.YtpleaopefngafaaDoorXmV
import Derived.Test.YtpleaopefngafaaDoorXmAu
namespace Go.Proofs.YtpleaopefngafaaDoor
set_option maxRecDepth 8000
open Go.RowKit

/-- The first k attributes are right, and no two of their names alike. -/
def OkTo (l : List Pct.PairL) (k : Nat) : Prop := (l.take k).all Xm.attrB = true ∧ ∀ i (hi : i < l.length) j (hj : j < l.length), i < j → j < k → ¬ l[i].1 = l[j].1
theorem OkTo.zero (l : List Pct.PairL) : OkTo l 0 := ⟨by rw [List.take_zero]; rfl, fun i _ j _ _ h => absurd h (by omega)⟩
theorem OkTo.succ {l : List Pct.PairL} {k : Nat} (h : OkTo l k) (hk : k < l.length) (ha : Xm.attrB l[k] = true) (hn : ∀ j (hj : j < l.length), j < k → ¬ l[j].1 = l[k].1) : OkTo l (k + 1) := by
  refine ⟨?_, fun i hi j hj hij hjk => ?_⟩
  · rw [List.take_succ_eq_append_getElem hk, List.all_append, h.1, List.all_cons, ha]; rfl
  · by_cases e : j = k
    · subst e; exact hn i hi hij
    · exact h.2 i hi j hj hij (by omega)
theorem distinct_of {l : List Pct.PairL} : Xm.distinct (l.map (·.1)) = true ↔ ∀ i (hi : i < l.length) j (hj : j < l.length), i < j → ¬ l[i].1 = l[j].1 := by
  rw [Xm.distinct_iff, List.nodup_iff_pairwise_ne, List.pairwise_iff_getElem]
  simp only [List.length_map, List.getElem_map]
  exact ⟨fun h i hi j hj hij => h i j hi hj hij, fun h i j hi hj hij => h i hi j hj hij⟩
theorem OkTo.full {l : List Pct.PairL} (h : OkTo l l.length) : attrsOk l = true := by
  unfold attrsOk
  rw [Bool.and_eq_true]
  have h1 := h.1
  rw [List.take_length] at h1
  exact ⟨h1, distinct_of.2 fun i hi j hj hij => h.2 i hi j hj hij hj⟩
theorem twice_bad {l : List Pct.PairL} {j k : Nat} (hk : k < l.length) (hjk : j < k) (h : l[j].1 = l[k].1) : attrsOk l = false := by
  unfold attrsOk
  have : Xm.distinct (l.map (·.1)) = false := by
    cases hd : Xm.distinct (l.map (·.1)) with
    | false => rfl
    | true => exact absurd h (distinct_of.1 hd j (by omega) k hk hjk)
  rw [this, Bool.and_false]
theorem own_eq2 (n : Xm.N) : Xm.own n = (Xm.nameB n.name && (Xm.shownB n.text && ((n.text.isEmpty || decide (n.kids.length = 0)) && (attrsOk n.attrs && n.kids.all Xm.own)))) := by
  rw [own_eq, show n.kids.isEmpty = decide (n.kids.length = 0) by cases n.kids <;> rfl]
  cases Xm.nameB n.name <;> cases attrsOk n.attrs <;> cases Xm.shownB n.text <;> cases n.text.isEmpty <;> cases decide (n.kids.length = 0) <;> cases n.kids.all Xm.own <;> rfl
def OwnAt (W : World) (n : Xm.N) (i : Value) (wr : World) : Prop :=
  ∃ k : Nat, k ≤ n.attrs.length ∧ i = .int .i64 (k : Int) ∧ OkTo n.attrs k ∧ Below W.heap.size W wr
def InAt (W : World) (l : List Pct.PairL) (nm : List UInt8) (k : Nat) (i : Value) (wr : World) : Prop :=
  ∃ j : Nat, j ≤ k ∧ i = .int .i64 (j : Int) ∧ (∀ i (hi : i < l.length), i < j → ¬ l[i].1 = nm) ∧ Below W.heap.size W wr

set_option maxHeartbeats 8000000 in
theorem refOwn_any (M : Nat) : ∀ (n : Xm.N), Xm.size n ≤ M → ∀ (v : Value) (w : World), Tr w w.heap.size n v → All (Lim 1099511627776) n →
    Calls Tryd.prog 27 #[v] w fun e w' => e = .returned (.bool (Xm.own n)) ∧ Below w.heap.size w w' := by
  induction M with
  | zero =>
    intro n hM
    exfalso
    cases n with
    | mk nm ats tx ks => rw [Xm.size] at hM; omega
  | succ M ih =>
    intro n hM v w ht hL
    obtain ⟨A, ca, K, ck, hv, hpc, hkids⟩ := ht.form
    subst hv
    unfold nV
    have hOW := own_eq2 n
    have hh := hL.here
    have hC1 := fun w' => refName_any n.name w' hh.2.2.1
    have hC3 := fun w' => refShown_any n.text w' (by have := hh.2.2.2.1; omega)
    obtain ⟨m, hm⟩ : ∃ m, n.kids.length = m := ⟨_, rfl⟩
    have hm63 : m ≤ 1099511627776 := by have := hh.2.1; omega
    obtain ⟨na, hna⟩ : ∃ m, n.attrs.length = m := ⟨_, rfl⟩
    have hna63 : na ≤ 1099511627776 := by have := hh.1; omega
    rw [hm] at hOW
    obtain ⟨nn, hnn⟩ : ∃ y, n.name = y := ⟨_, rfl⟩
    obtain ⟨nt, hnt⟩ : ∃ y, n.text = y := ⟨_, rfl⟩
    rw [hm, hna, hnn, hnt]
    rw [hnn] at hC1 hOW
    rw [hnt] at hC3 hOW
    have HM := Lib.hid hm
    have HNA := Lib.hid hna
    clear hm hna hnn hnt ht
    obtain ⟨W, hW⟩ : ∃ W, W = w.alloc (.cells #[.string (S nn), .slice A na ca, .string (S nt), .slice K m ck] 26) := ⟨_, rfl⟩
    obtain ⟨g, hg⟩ : ∃ g, g = w.heap.size := ⟨_, rfl⟩
    have hbox : Box W g (.string (S nn)) (.slice A na ca) (.string (S nt)) (.slice K m ck) := by rw [hW]; exact Box.new w _ _ _ _ _ g hg
    have hb0 : Below w.heap.size w W := by rw [hW]; exact (Below.refl _ _).alloc (Nat.le_refl _) _
    have hgW : g < W.heap.size := by rw [hW, hg]; simp
    have hwW : w.heap.size ≤ W.heap.size := hb0.size
    have HW := Lib.hid hW
    have HG := Lib.hid hg
    clear hW hg
    obtain ⟨q1, hq1⟩ : ∃ q, Xm.nameB nn = q := ⟨_, rfl⟩
    obtain ⟨q3, hq3⟩ : ∃ q, Xm.shownB nt = q := ⟨_, rfl⟩
    rw [hq1] at hC1 hOW
    rw [hq3] at hC3 hOW
    have HC1 := Lib.hid hC1
    have HC3 := Lib.hid hC3
    have HOW := Lib.hid hOW
    have HIH := Lib.hid ih
    have HKIDS := Lib.hid hkids
    have HPC := Lib.hid hpc
    have HH := Lib.hid hh
    clear hC1 hC3 hOW hq1 hq3 hh ih hkids hpc
    obtain ⟨b0, b1, b2, b3⟩ := hbox
    go_enter Tryd.func27, Tryd.ntmps27
    go_wp2_with fail
    rw [← HW.out, ← HG.out]
    refine (HC1.out _).mono ?_
    rintro e w' ⟨rfl, rfl⟩
    go_wp2_with fail
    refine (HC3.out _).mono ?_
    rintro e w' ⟨rfl, rfl⟩
    cases q1 with
    | false =>
      go_wp2_with fail
      go_ret
      exact ⟨ret_bool (by rw [HOW.out, Bool.false_and]), hb0⟩
    | true =>
      cases q3 with
      | false =>
        go_wp2_with fail
        go_ret
        exact ⟨ret_bool (by rw [HOW.out, Bool.true_and, Bool.false_and]), hb0⟩
      | true =>
        have HOW2 : Hid (Xm.own n = ((nt.isEmpty || decide (m = 0)) && (attrsOk n.attrs && n.kids.all Xm.own))) := Lib.hid (by rw [HOW.out, Bool.true_and, Bool.true_and])
        have HHO := Lib.hid HOW2
        by_cases hnt : nt = []
        · have hq2 : (S nt).toList.isEmpty = true := by rw [S_list, hnt]; rfl
          have hq1 : (S nt).toList = [] := by rw [S_list]; exact hnt
          have HOW3 : Hid (Xm.own n = (attrsOk n.attrs && n.kids.all Xm.own)) := Lib.hid (by rw [HOW2.out, hnt]; rfl)
          clear hnt
          go_wp2_with fail
          go_loopw [5] (fun i wr => OwnAt W n i wr) (fun i _ => na - (intOf i).toNat)
          case atStart => exact ⟨0, Nat.zero_le _, rfl, OkTo.zero _, Below.refl _ _⟩
          case round =>
            obtain ⟨k, hk, rfl, hok, hbr⟩ := hrel
            obtain ⟨c0, c1, c2, c3⟩ := Box.keep ⟨b0, b1, b2, b3⟩ hbr hgW
            have hbw : Below w.heap.size w wr := hb0.trans (hbr.mono hwW)
            have hgr : g < wr.heap.size := Nat.lt_of_lt_of_le hgW hbr.size
            have hnl := HNA.out
            have HOK := Lib.hid hok
            clear hok b0 b1 b2 b3
            by_cases hlt : k < na
            · have hkl : k < n.attrs.length := by omega
              obtain ⟨ab, off, rfl, hbb, hcl'⟩ := HPC.out (by omega)
              have hcl : ∀ j (h : j < n.attrs.length) (w' : World), Below w.heap.size w w' → w'.cell? ⟨ab, off + j * 2, none⟩ = some (.string (S n.attrs[j].1)) ∧ w'.cell? ⟨ab, off + j * 2 + 1, none⟩ = some (.string (S n.attrs[j].2)) := fun j h w' hb => ⟨(hb.cell (p := ⟨ab, off + j * 2, none⟩) hbb).trans (hcl' j h).1, (hb.cell (p := ⟨ab, off + j * 2 + 1, none⟩) hbb).trans (hcl' j h).2⟩
              obtain ⟨d0, d1⟩ := hcl k hkl wr hbw
              have hqk := HH.out.2.2.2.2 n.attrs[k] (List.getElem_mem hkl)
              have HCL := Lib.hid hcl
              have HBAD : Hid (Xm.attrB n.attrs[k] = false → Xm.own n = false) := Lib.hid (fun h => by rw [HOW3.out, all_take_false hkl h]; rfl)
              have HTW : Hid (∀ j (hj : j < n.attrs.length), j < k → n.attrs[j].1 = n.attrs[k].1 → Xm.own n = false) := Lib.hid (fun j hj h1 h2 => by rw [HOW3.out, twice_bad hkl h1 h2]; rfl)
              have HSN : Hid (Xm.attrB n.attrs[k] = true → (∀ j (hj : j < n.attrs.length), j < k → ¬ n.attrs[j].1 = n.attrs[k].1) → OkTo n.attrs (k + 1)) := Lib.hid (fun h h' => HOK.out.succ hkl h h')
              obtain ⟨p, hp⟩ : ∃ p, p = n.attrs[k] := ⟨_, rfl⟩
              rw [← hp] at d0 d1 hqk HBAD HSN HTW
              obtain ⟨nm, vl⟩ := p
              dsimp only at d0 d1
              have j0 : (0 : Int) ≤ (k : Int) := by omega
              have j1 : (k : Int) < (na : Int) := by omega
              have hq1 : nm.length ≤ 1099511627776 := hqk.1
              have hq2 : vl.length ≤ 9223372036854775807 := by have : vl.length ≤ _ := hqk.2; omega
              clear hcl' hcl hp hqk hkl hnl
              obtain ⟨wa, hwa⟩ : ∃ wa, wa = wr.alloc (.cells #[.string (S nm), .string (S vl)] 38) := ⟨_, rfl⟩
              have hba : Below w.heap.size w wa := by rw [hwa]; exact hbw.alloc hbw.size _
              have hbWa : Below W.heap.size W wa := by rw [hwa]; exact hbr.alloc hbr.size _
              obtain ⟨gp, hgp⟩ : ∃ gp, gp = wr.heap.size := ⟨_, rfl⟩
              have ga0 : wa.cell? ⟨gp, 0, none⟩ = some (.string (S nm)) := by rw [hwa, hgp]; exact World.cell?_alloc_new wr _ _ 0
              have ga1 : wa.cell? ⟨gp, 1, none⟩ = some (.string (S vl)) := by rw [hwa, hgp]; exact World.cell?_alloc_new wr _ _ 1
              have hga : gp < wa.heap.size := by rw [hwa, hgp]; simp
              have e1 : wa.cell? ⟨g, 1, none⟩ = some (.slice (some ⟨ab, off, none⟩) na ca) := by rw [hwa]; exact (((Below.refl wr.heap.size wr).alloc (Nat.le_refl _) _).cell (p := ⟨g, 1, none⟩) hgr).trans c1
              have hgwa : g < wa.heap.size := Nat.lt_of_lt_of_le hgW hbWa.size
              have HWA := Lib.hid hwa
              have HG := Lib.hid hgp
              clear hwa hgp
              have hC := fun w' => refName_any nm w' hq1
              have hD := fun w' => refShown_any vl w' hq2
              obtain ⟨z1, h1⟩ : ∃ z, Xm.nameB nm = z := ⟨_, rfl⟩
              obtain ⟨z2, h2⟩ : ∃ z, Xm.shownB vl = z := ⟨_, rfl⟩
              rw [h1] at hC
              rw [h2] at hD
              have HC := Lib.hid hC
              have HD := Lib.hid hD
              clear hC hD
              cases z1 with
              | false =>
                have HF : Hid (Xm.own n = false) := Lib.hid (HBAD.out (by unfold Xm.attrB; rw [h1]; rfl))
                clear h1 h2
                go_wp2_with fail
                rw [← HWA.out]
                refine (HC.out _).mono ?_
                rintro e w' ⟨rfl, rfl⟩
                go_wp2_with fail
                go_ret
                exact ⟨ret_bool HF.out.symm, hba⟩
              | true =>
                cases z2 with
                | false =>
                  have HF : Hid (Xm.own n = false) := Lib.hid (HBAD.out (by unfold Xm.attrB; rw [h2, Bool.and_false]))
                  clear h1 h2
                  go_wp2_with fail
                  rw [← HWA.out, ← HG.out]
                  refine (HC.out _).mono ?_
                  rintro e w' ⟨rfl, rfl⟩
                  go_wp2_with fail
                  refine (HD.out _).mono ?_
                  rintro e w' ⟨rfl, rfl⟩
                  go_wp2_with fail
                  go_ret
                  exact ⟨ret_bool HF.out.symm, hba⟩
                | true =>
                  have HSN2 : Hid ((∀ j (hj : j < n.attrs.length), j < k → ¬ n.attrs[j].1 = nm) → OkTo n.attrs (k + 1)) := Lib.hid (HSN.out (by unfold Xm.attrB; rw [h1, h2]; rfl))
                  clear h1 h2
                  go_wp2_with fail
                  rw [← HWA.out, ← HG.out]
                  clear c0 c1 c2 c3 d0 d1
                  refine (HC.out _).mono ?_
                  rintro e w' ⟨rfl, rfl⟩
                  go_wp2_with fail
                  refine (HD.out _).mono ?_
                  rintro e w' ⟨rfl, rfl⟩
                  go_wp2_with fail
                  clear ga1
                  go_loopw [7] (fun i ws => InAt wa n.attrs nm k i ws) (fun i _ => k - (intOf i).toNat)
                  case atStart => exact ⟨0, Nat.zero_le _, rfl, fun i _ h => absurd h (by omega), Below.refl _ _⟩
                  case round =>
                    obtain ⟨j, hj, rfl, hall, hbs⟩ := hrel
                    have HALL := Lib.hid hall
                    clear hall
                    have f1 := (hbs.cell (p := ⟨g, 1, none⟩) hgwa).trans e1
                    have f0 := (hbs.cell (p := ⟨gp, 0, none⟩) hga).trans ga0
                    have hbws : Below w.heap.size w wr := hba.trans (hbs.mono hba.size)
                    by_cases hjk : j < k
                    · have hjl : j < n.attrs.length := by have := HNA.out; omega
                      have d0 := (HCL.out j hjl _ hbws).1
                      have HEQ : Hid (n.attrs[j].1 = nm → Xm.own n = false) := Lib.hid (HTW.out j hjl hjk)
                      have HNE : Hid (¬ n.attrs[j].1 = nm → ∀ i (hi : i < n.attrs.length), i < j + 1 → ¬ n.attrs[i].1 = nm) := Lib.hid (fun h i hi hij => by
                        by_cases e : i = j
                        · subst e; exact h
                        · exact HALL.out i hi (by omega))
                      obtain ⟨nj, hnj⟩ : ∃ y, y = n.attrs[j].1 := ⟨_, rfl⟩
                      rw [← hnj] at d0 HEQ HNE
                      have i0 : (0 : Int) ≤ (j : Int) := by omega
                      have i1 : (j : Int) < (na : Int) := by omega
                      clear hnj hjl
                      by_cases he : nj = nm
                      · have HF : Hid (Xm.own n = false) := Lib.hid (HEQ.out he)
                        have hs : ((S nj).toList == (S nm).toList) = true := by rw [S_list, S_list, he]; simp
                        have hs2 : S nj = S nm := by rw [he]
                        clear he
                        go_wp2_with fail
                        go_quiet (fail)
                        go_wp2_with fail
                        go_ret
                        exact ⟨ret_bool HF.out.symm, below_drewN hbws _⟩
                      · have HNX := Lib.hid (HNE.out he)
                        have hs : ((S nj).toList == (S nm).toList) = false := by rw [S_list, S_list]; simpa using he
                        have hs2 : ¬ S nj = S nm := fun h => he (by rw [← S_list nj, ← S_list nm, h])
                        clear he
                        go_wp2_with fail
                        go_quiet (fail)
                        go_wp2_with fail
                        go_roundw
                        case rel => exact ⟨j + 1, by omega, by go_num, HNX.out, below_drewN hbs _⟩
                        case measure => simp [intOf]; omega
                    · have HNX : Hid (OkTo n.attrs (k + 1)) := Lib.hid (HSN2.out fun i hi hik => HALL.out i hi (by omega))
                      have hbz := hbWa.trans (hbs.mono hbWa.size)
                      go_wp2_with fail
                      go_roundw
                      case rel => exact ⟨k + 1, by have := HNA.out; omega, by go_num, HNX.out, hbz⟩
                      case measure => simp [intOf]; omega
            · have HOA : Hid (Xm.own n = n.kids.all Xm.own) := Lib.hid (by
                have h := HOK.out
                rw [show k = n.attrs.length by omega] at h
                rw [HOW3.out, h.full, Bool.true_and])
              clear hnl
              go_wp2_with fail
              go_loopw [8] (fun i ws => OwnRel wr n i ws) (fun i _ => m - (intOf i).toNat)
              case atStart => exact ⟨0, Nat.zero_le _, rfl, by rw [List.take_zero]; rfl, Below.refl _ _⟩
              case round =>
                obtain ⟨k2, hk2, rfl, hall, hbs⟩ := hrel
                have hml := HM.out
                have HALL := Lib.hid hall
                have hbws : Below w.heap.size w wr := hbw.trans (hbs.mono hbw.size)
                have hbx := (Box.keep ⟨c0, c1, c2, c3⟩ hbs hgr).c3
                clear hall c0 c1 c2 c3
                by_cases hlt2 : k2 < m
                · have hkl : k2 < n.kids.length := by omega
                  obtain ⟨b, off, rfl, hbl, htl⟩ := HKIDS.out (by omega)
                  obtain ⟨A', ca', K', ck', e0, e1, e2, e3, htk⟩ := TrL.get n.kids 0 k2 hkl htl
                  rw [Nat.zero_add] at e0 e1 e2 e3
                  have hcell : ∀ j, wr.cell? ⟨b, j, none⟩ = w.cell? ⟨b, j, none⟩ := fun j => hbws.cell (p := ⟨b, j, none⟩) hbl
                  have c0 := (hcell _).trans e0
                  have c1 := (hcell _).trans e1
                  have c2 := (hcell _).trans e2
                  have c3 := (hcell _).trans e3
                  have hsz := size_kid hkl
                  have HSZ : Hid (Xm.size n.kids[k2] ≤ M) := Lib.hid (by omega)
                  have HLK := Lib.hid (hL.kid hkl)
                  have HBAD : Hid (Xm.own n.kids[k2] = false → Xm.own n = false) := Lib.hid (fun h => by
                    rw [HOA.out, List.all_eq_false]
                    exact ⟨_, List.getElem_mem hkl, by rw [h]; decide⟩)
                  have HSN : Hid (Xm.own n.kids[k2] = true → (n.kids.take (k2 + 1)).all Xm.own = true) := Lib.hid (fun h => by
                    rw [List.take_succ_eq_append_getElem hkl, List.all_append, HALL.out, List.all_cons, h]; rfl)
                  obtain ⟨x, hx⟩ : ∃ x, x = n.kids[k2] := ⟨_, rfl⟩
                  rw [← hx] at htk HSZ HLK HBAD HSN c0 c1 c2 c3
                  clear hx e0 e1 e2 e3 htl hcell hsz hml
                  have hk0 : (0 : Int) ≤ (k2 : Int) := by omega
                  have hkI : (k2 : Int) < (m : Int) := by omega
                  obtain ⟨nx, hnx⟩ : ∃ y, y = x.name := ⟨_, rfl⟩
                  obtain ⟨ax, hax⟩ : ∃ y, y = x.attrs.length := ⟨_, rfl⟩
                  obtain ⟨tx, htx⟩ : ∃ y, y = x.text := ⟨_, rfl⟩
                  obtain ⟨kx, hkx⟩ : ∃ y, y = x.kids.length := ⟨_, rfl⟩
                  rw [← hnx, ← hax, ← htx, ← hkx] at htk
                  rw [← hnx] at c0
                  rw [← hax] at c1
                  rw [← htx] at c2
                  rw [← hkx] at c3
                  clear hnx hax htx hkx
                  have HI := Lib.hid (HIH.out x HSZ.out _ wr (Tr.moreB hbws.size x _ (Tr.keepB hbws (Nat.le_refl _) x _ htk)) HLK.out)
                  have HB5 := Lib.hid hbws
                  have HB6 := Lib.hid hbs
                  obtain ⟨qx, hqx⟩ : ∃ q, Xm.own x = q := ⟨_, rfl⟩
                  rw [hqx] at HI HBAD HSN
                  unfold nV at HI
                  clear htk hqx hbs hbws
                  cases qx with
                  | false =>
                    go_wp2_with fail
                    refine HI.out.mono ?_
                    rintro e w3 ⟨rfl, hb7⟩
                    go_wp2_with fail
                    go_ret
                    exact ⟨ret_bool (HBAD.out trivial).symm, HB5.out.trans (hb7.mono HB5.out.size)⟩
                  | true =>
                    go_wp2_with fail
                    refine HI.out.mono ?_
                    rintro e w3 ⟨rfl, hb7⟩
                    have hb8 := HB6.out.trans (hb7.mono HB6.out.size)
                    clear hb7
                    go_wp2_with fail
                    go_roundw
                    case rel => exact ⟨k2 + 1, by have := HM.out; omega, by go_num, HSN.out trivial, hb8⟩
                    case measure => simp [intOf]; omega
                · have HT : Hid (Xm.own n = true) := Lib.hid (by
                    have := HALL.out
                    rw [List.take_of_length_le (by omega)] at this
                    rw [HOA.out, this])
                  clear hml
                  go_wp2_with fail
                  go_ret
                  exact ⟨ret_bool HT.out.symm, hbws⟩
        · have hq1 : ((S nt).toList == []) = false := by rw [S_list]; simpa using hnt
          have hq2 : (S nt).toList.isEmpty = false := by rw [S_list]; simpa using hnt
          have hE : nt.isEmpty = false := by simpa using hnt
          by_cases h0 : m = 0
          · have HOW3 : Hid (Xm.own n = (attrsOk n.attrs && n.kids.all Xm.own)) := Lib.hid (by rw [HOW2.out, h0]; rw [show decide (0 = 0) = true from rfl, Bool.or_true, Bool.true_and])
            have hd : decide ((0 : Int) < (m : Int)) = false := by simp; omega
            have hd2 : decide (0 < m) = false := by simp; omega
            clear hnt hE h0
            go_wp2_with fail
            go_loopw [5] (fun i wr => OwnAt W n i wr) (fun i _ => na - (intOf i).toNat)
            case atStart => exact ⟨0, Nat.zero_le _, rfl, OkTo.zero _, Below.refl _ _⟩
            case round =>
              obtain ⟨k, hk, rfl, hok, hbr⟩ := hrel
              obtain ⟨c0, c1, c2, c3⟩ := Box.keep ⟨b0, b1, b2, b3⟩ hbr hgW
              have hbw : Below w.heap.size w wr := hb0.trans (hbr.mono hwW)
              have hgr : g < wr.heap.size := Nat.lt_of_lt_of_le hgW hbr.size
              have hnl := HNA.out
              have HOK := Lib.hid hok
              clear hok b0 b1 b2 b3
              by_cases hlt : k < na
              · have hkl : k < n.attrs.length := by omega
                obtain ⟨ab, off, rfl, hbb, hcl'⟩ := HPC.out (by omega)
                have hcl : ∀ j (h : j < n.attrs.length) (w' : World), Below w.heap.size w w' → w'.cell? ⟨ab, off + j * 2, none⟩ = some (.string (S n.attrs[j].1)) ∧ w'.cell? ⟨ab, off + j * 2 + 1, none⟩ = some (.string (S n.attrs[j].2)) := fun j h w' hb => ⟨(hb.cell (p := ⟨ab, off + j * 2, none⟩) hbb).trans (hcl' j h).1, (hb.cell (p := ⟨ab, off + j * 2 + 1, none⟩) hbb).trans (hcl' j h).2⟩
                obtain ⟨d0, d1⟩ := hcl k hkl wr hbw
                have hqk := HH.out.2.2.2.2 n.attrs[k] (List.getElem_mem hkl)
                have HCL := Lib.hid hcl
                have HBAD : Hid (Xm.attrB n.attrs[k] = false → Xm.own n = false) := Lib.hid (fun h => by rw [HOW3.out, all_take_false hkl h]; rfl)
                have HTW : Hid (∀ j (hj : j < n.attrs.length), j < k → n.attrs[j].1 = n.attrs[k].1 → Xm.own n = false) := Lib.hid (fun j hj h1 h2 => by rw [HOW3.out, twice_bad hkl h1 h2]; rfl)
                have HSN : Hid (Xm.attrB n.attrs[k] = true → (∀ j (hj : j < n.attrs.length), j < k → ¬ n.attrs[j].1 = n.attrs[k].1) → OkTo n.attrs (k + 1)) := Lib.hid (fun h h' => HOK.out.succ hkl h h')
                obtain ⟨p, hp⟩ : ∃ p, p = n.attrs[k] := ⟨_, rfl⟩
                rw [← hp] at d0 d1 hqk HBAD HSN HTW
                obtain ⟨nm, vl⟩ := p
                dsimp only at d0 d1
                have j0 : (0 : Int) ≤ (k : Int) := by omega
                have j1 : (k : Int) < (na : Int) := by omega
                have hq1 : nm.length ≤ 1099511627776 := hqk.1
                have hq2 : vl.length ≤ 9223372036854775807 := by have : vl.length ≤ _ := hqk.2; omega
                clear hcl' hcl hp hqk hkl hnl
                obtain ⟨wa, hwa⟩ : ∃ wa, wa = wr.alloc (.cells #[.string (S nm), .string (S vl)] 38) := ⟨_, rfl⟩
                have hba : Below w.heap.size w wa := by rw [hwa]; exact hbw.alloc hbw.size _
                have hbWa : Below W.heap.size W wa := by rw [hwa]; exact hbr.alloc hbr.size _
                obtain ⟨gp, hgp⟩ : ∃ gp, gp = wr.heap.size := ⟨_, rfl⟩
                have ga0 : wa.cell? ⟨gp, 0, none⟩ = some (.string (S nm)) := by rw [hwa, hgp]; exact World.cell?_alloc_new wr _ _ 0
                have ga1 : wa.cell? ⟨gp, 1, none⟩ = some (.string (S vl)) := by rw [hwa, hgp]; exact World.cell?_alloc_new wr _ _ 1
                have hga : gp < wa.heap.size := by rw [hwa, hgp]; simp
                have e1 : wa.cell? ⟨g, 1, none⟩ = some (.slice (some ⟨ab, off, none⟩) na ca) := by rw [hwa]; exact (((Below.refl wr.heap.size wr).alloc (Nat.le_refl _) _).cell (p := ⟨g, 1, none⟩) hgr).trans c1
                have hgwa : g < wa.heap.size := Nat.lt_of_lt_of_le hgW hbWa.size
                have HWA := Lib.hid hwa
                have HG := Lib.hid hgp
                clear hwa hgp
                have hC := fun w' => refName_any nm w' hq1
                have hD := fun w' => refShown_any vl w' hq2
                obtain ⟨z1, h1⟩ : ∃ z, Xm.nameB nm = z := ⟨_, rfl⟩
                obtain ⟨z2, h2⟩ : ∃ z, Xm.shownB vl = z := ⟨_, rfl⟩
                rw [h1] at hC
                rw [h2] at hD
                have HC := Lib.hid hC
                have HD := Lib.hid hD
                clear hC hD
                cases z1 with
                | false =>
                  have HF : Hid (Xm.own n = false) := Lib.hid (HBAD.out (by unfold Xm.attrB; rw [h1]; rfl))
                  clear h1 h2
                  go_wp2_with fail
                  rw [← HWA.out]
                  refine (HC.out _).mono ?_
                  rintro e w' ⟨rfl, rfl⟩
                  go_wp2_with fail
                  go_ret
                  exact ⟨ret_bool HF.out.symm, hba⟩
                | true =>
                  cases z2 with
                  | false =>
                    have HF : Hid (Xm.own n = false) := Lib.hid (HBAD.out (by unfold Xm.attrB; rw [h2, Bool.and_false]))
                    clear h1 h2
                    go_wp2_with fail
                    rw [← HWA.out, ← HG.out]
                    refine (HC.out _).mono ?_
                    rintro e w' ⟨rfl, rfl⟩
                    go_wp2_with fail
                    refine (HD.out _).mono ?_
                    rintro e w' ⟨rfl, rfl⟩
                    go_wp2_with fail
                    go_ret
                    exact ⟨ret_bool HF.out.symm, hba⟩
                  | true =>
                    have HSN2 : Hid ((∀ j (hj : j < n.attrs.length), j < k → ¬ n.attrs[j].1 = nm) → OkTo n.attrs (k + 1)) := Lib.hid (HSN.out (by unfold Xm.attrB; rw [h1, h2]; rfl))
                    clear h1 h2
                    go_wp2_with fail
                    rw [← HWA.out, ← HG.out]
                    clear c0 c1 c2 c3 d0 d1
                    refine (HC.out _).mono ?_
                    rintro e w' ⟨rfl, rfl⟩
                    go_wp2_with fail
                    refine (HD.out _).mono ?_
                    rintro e w' ⟨rfl, rfl⟩
                    go_wp2_with fail
                    clear ga1
                    go_loopw [7] (fun i ws => InAt wa n.attrs nm k i ws) (fun i _ => k - (intOf i).toNat)
                    case atStart => exact ⟨0, Nat.zero_le _, rfl, fun i _ h => absurd h (by omega), Below.refl _ _⟩
                    case round =>
                      obtain ⟨j, hj, rfl, hall, hbs⟩ := hrel
                      have HALL := Lib.hid hall
                      clear hall
                      have f1 := (hbs.cell (p := ⟨g, 1, none⟩) hgwa).trans e1
                      have f0 := (hbs.cell (p := ⟨gp, 0, none⟩) hga).trans ga0
                      have hbws : Below w.heap.size w wr := hba.trans (hbs.mono hba.size)
                      by_cases hjk : j < k
                      · have hjl : j < n.attrs.length := by have := HNA.out; omega
                        have d0 := (HCL.out j hjl _ hbws).1
                        have HEQ : Hid (n.attrs[j].1 = nm → Xm.own n = false) := Lib.hid (HTW.out j hjl hjk)
                        have HNE : Hid (¬ n.attrs[j].1 = nm → ∀ i (hi : i < n.attrs.length), i < j + 1 → ¬ n.attrs[i].1 = nm) := Lib.hid (fun h i hi hij => by
                          by_cases e : i = j
                          · subst e; exact h
                          · exact HALL.out i hi (by omega))
                        obtain ⟨nj, hnj⟩ : ∃ y, y = n.attrs[j].1 := ⟨_, rfl⟩
                        rw [← hnj] at d0 HEQ HNE
                        have i0 : (0 : Int) ≤ (j : Int) := by omega
                        have i1 : (j : Int) < (na : Int) := by omega
                        clear hnj hjl
                        by_cases he : nj = nm
                        · have HF : Hid (Xm.own n = false) := Lib.hid (HEQ.out he)
                          have hs : ((S nj).toList == (S nm).toList) = true := by rw [S_list, S_list, he]; simp
                          have hs2 : S nj = S nm := by rw [he]
                          clear he
                          go_wp2_with fail
                          go_quiet (fail)
                          go_wp2_with fail
                          go_ret
                          exact ⟨ret_bool HF.out.symm, below_drewN hbws _⟩
                        · have HNX := Lib.hid (HNE.out he)
                          have hs : ((S nj).toList == (S nm).toList) = false := by rw [S_list, S_list]; simpa using he
                          have hs2 : ¬ S nj = S nm := fun h => he (by rw [← S_list nj, ← S_list nm, h])
                          clear he
                          go_wp2_with fail
                          go_quiet (fail)
                          go_wp2_with fail
                          go_roundw
                          case rel => exact ⟨j + 1, by omega, by go_num, HNX.out, below_drewN hbs _⟩
                          case measure => simp [intOf]; omega
                      · have HNX : Hid (OkTo n.attrs (k + 1)) := Lib.hid (HSN2.out fun i hi hik => HALL.out i hi (by omega))
                        have hbz := hbWa.trans (hbs.mono hbWa.size)
                        go_wp2_with fail
                        go_roundw
                        case rel => exact ⟨k + 1, by have := HNA.out; omega, by go_num, HNX.out, hbz⟩
                        case measure => simp [intOf]; omega
              · have HOA : Hid (Xm.own n = n.kids.all Xm.own) := Lib.hid (by
                  have h := HOK.out
                  rw [show k = n.attrs.length by omega] at h
                  rw [HOW3.out, h.full, Bool.true_and])
                clear hnl
                go_wp2_with fail
                go_loopw [8] (fun i ws => OwnRel wr n i ws) (fun i _ => m - (intOf i).toNat)
                case atStart => exact ⟨0, Nat.zero_le _, rfl, by rw [List.take_zero]; rfl, Below.refl _ _⟩
                case round =>
                  obtain ⟨k2, hk2, rfl, hall, hbs⟩ := hrel
                  have hml := HM.out
                  have HALL := Lib.hid hall
                  have hbws : Below w.heap.size w wr := hbw.trans (hbs.mono hbw.size)
                  have hbx := (Box.keep ⟨c0, c1, c2, c3⟩ hbs hgr).c3
                  clear hall c0 c1 c2 c3
                  by_cases hlt2 : k2 < m
                  · have hkl : k2 < n.kids.length := by omega
                    obtain ⟨b, off, rfl, hbl, htl⟩ := HKIDS.out (by omega)
                    obtain ⟨A', ca', K', ck', e0, e1, e2, e3, htk⟩ := TrL.get n.kids 0 k2 hkl htl
                    rw [Nat.zero_add] at e0 e1 e2 e3
                    have hcell : ∀ j, wr.cell? ⟨b, j, none⟩ = w.cell? ⟨b, j, none⟩ := fun j => hbws.cell (p := ⟨b, j, none⟩) hbl
                    have c0 := (hcell _).trans e0
                    have c1 := (hcell _).trans e1
                    have c2 := (hcell _).trans e2
                    have c3 := (hcell _).trans e3
                    have hsz := size_kid hkl
                    have HSZ : Hid (Xm.size n.kids[k2] ≤ M) := Lib.hid (by omega)
                    have HLK := Lib.hid (hL.kid hkl)
                    have HBAD : Hid (Xm.own n.kids[k2] = false → Xm.own n = false) := Lib.hid (fun h => by
                      rw [HOA.out, List.all_eq_false]
                      exact ⟨_, List.getElem_mem hkl, by rw [h]; decide⟩)
                    have HSN : Hid (Xm.own n.kids[k2] = true → (n.kids.take (k2 + 1)).all Xm.own = true) := Lib.hid (fun h => by
                      rw [List.take_succ_eq_append_getElem hkl, List.all_append, HALL.out, List.all_cons, h]; rfl)
                    obtain ⟨x, hx⟩ : ∃ x, x = n.kids[k2] := ⟨_, rfl⟩
                    rw [← hx] at htk HSZ HLK HBAD HSN c0 c1 c2 c3
                    clear hx e0 e1 e2 e3 htl hcell hsz hml
                    have hk0 : (0 : Int) ≤ (k2 : Int) := by omega
                    have hkI : (k2 : Int) < (m : Int) := by omega
                    obtain ⟨nx, hnx⟩ : ∃ y, y = x.name := ⟨_, rfl⟩
                    obtain ⟨ax, hax⟩ : ∃ y, y = x.attrs.length := ⟨_, rfl⟩
                    obtain ⟨tx, htx⟩ : ∃ y, y = x.text := ⟨_, rfl⟩
                    obtain ⟨kx, hkx⟩ : ∃ y, y = x.kids.length := ⟨_, rfl⟩
                    rw [← hnx, ← hax, ← htx, ← hkx] at htk
                    rw [← hnx] at c0
                    rw [← hax] at c1
                    rw [← htx] at c2
                    rw [← hkx] at c3
                    clear hnx hax htx hkx
                    have HI := Lib.hid (HIH.out x HSZ.out _ wr (Tr.moreB hbws.size x _ (Tr.keepB hbws (Nat.le_refl _) x _ htk)) HLK.out)
                    have HB5 := Lib.hid hbws
                    have HB6 := Lib.hid hbs
                    obtain ⟨qx, hqx⟩ : ∃ q, Xm.own x = q := ⟨_, rfl⟩
                    rw [hqx] at HI HBAD HSN
                    unfold nV at HI
                    clear htk hqx hbs hbws
                    cases qx with
                    | false =>
                      go_wp2_with fail
                      refine HI.out.mono ?_
                      rintro e w3 ⟨rfl, hb7⟩
                      go_wp2_with fail
                      go_ret
                      exact ⟨ret_bool (HBAD.out trivial).symm, HB5.out.trans (hb7.mono HB5.out.size)⟩
                    | true =>
                      go_wp2_with fail
                      refine HI.out.mono ?_
                      rintro e w3 ⟨rfl, hb7⟩
                      have hb8 := HB6.out.trans (hb7.mono HB6.out.size)
                      clear hb7
                      go_wp2_with fail
                      go_roundw
                      case rel => exact ⟨k2 + 1, by have := HM.out; omega, by go_num, HSN.out trivial, hb8⟩
                      case measure => simp [intOf]; omega
                  · have HT : Hid (Xm.own n = true) := Lib.hid (by
                      have := HALL.out
                      rw [List.take_of_length_le (by omega)] at this
                      rw [HOA.out, this])
                    clear hml
                    go_wp2_with fail
                    go_ret
                    exact ⟨ret_bool HT.out.symm, hbws⟩
          · have HF : Hid (Xm.own n = false) := Lib.hid (by
              rw [HOW2.out, hE, show decide (m = 0) = false by simpa using h0]
              rfl)
            have hd : decide (0 < m) = true := by simpa using (by omega : 0 < m)
            clear hnt hE h0
            go_wp2_with fail
            go_ret
            exact ⟨ret_bool HF.out.symm, hb0⟩

set_option maxHeartbeats 800000 in
theorem refRight_any (n : Xm.N) (v : Value) (w : World) (ht : Tr w w.heap.size n v) (hL : All (Lim 1099511627776) n) :
    Calls Tryd.prog 15 #[v] w fun e w' => e = .returned (.bool (Xm.right n)) ∧ Below w.heap.size w w' := by
  obtain ⟨A, ca, K, ck, hv, _, _⟩ := ht.form
  subst hv
  have HR := Lib.hid (show Xm.right n = ((Xm.few n 8 200).isSome && Xm.own n) from rfl)
  have hT : ∀ w', Below w.heap.size w w' → Tr w' w'.heap.size n (nV n.name A n.attrs.length ca n.text K n.kids.length ck) := fun w' hb => ht.next hb
  have HT := Lib.hid hT
  obtain ⟨z, hz⟩ : ∃ z, z = leftI (Xm.few n 8 200) := ⟨_, rfl⟩
  have hd : decide (0 ≤ z) = (Xm.few n 8 200).isSome := by rw [hz]; exact leftI_ge _
  have HF : Hid (∀ w', Below w.heap.size w w' → Calls Tryd.prog 17 #[nV n.name A n.attrs.length ca n.text K n.kids.length ck, .int .i64 200, .int .i64 8] w' fun e w'' => e = .returned (.int .i64 z) ∧ Below w'.heap.size w' w'') := Lib.hid (fun w' hb => by rw [hz]; exact refFew_any _ n (Nat.le_refl _) 8 200 _ w' (HT.out w' hb) (All.mono (Lim.mono (by omega)) n hL) (by omega) (by omega))
  have HO : Hid (∀ w', Below w.heap.size w w' → Calls Tryd.prog 27 #[nV n.name A n.attrs.length ca n.text K n.kids.length ck] w' fun e w'' => e = .returned (.bool (Xm.own n)) ∧ Below w'.heap.size w' w'') := Lib.hid (fun w' hb => refOwn_any _ n (Nat.le_refl _) _ w' (HT.out w' hb) hL)
  obtain ⟨q1, hq1⟩ : ∃ q, (Xm.few n 8 200).isSome = q := ⟨_, rfl⟩
  rw [hq1] at HR hd
  obtain ⟨q2, hq2⟩ : ∃ q, Xm.own n = q := ⟨_, rfl⟩
  rw [hq2] at HR HO
  obtain ⟨W, hW⟩ : ∃ W, W = w.alloc (.cells #[.string (S n.name), .slice A n.attrs.length ca, .string (S n.text), .slice K n.kids.length ck] 26) := ⟨_, rfl⟩
  obtain ⟨g, hg⟩ : ∃ g, g = w.heap.size := ⟨_, rfl⟩
  have hbox : Box W g (.string (S n.name)) (.slice A n.attrs.length ca) (.string (S n.text)) (.slice K n.kids.length ck) := by rw [hW]; exact Box.new w _ _ _ _ _ g hg
  have hb0 : Below w.heap.size w W := by rw [hW]; exact (Below.refl _ _).alloc (Nat.le_refl _) _
  have hgW : g < W.heap.size := by rw [hW, hg]; simp
  have HW := Lib.hid hW
  have HG := Lib.hid hg
  unfold nV at HF HO ⊢
  clear hW hg hq1 hq2 ht hT hz
  obtain ⟨b0, b1, b2, b3⟩ := hbox
  go_enter Tryd.func15, Tryd.ntmps15
  go_wp2_with fail
  rw [← HW.out, ← HG.out]
  refine (HF.out _ hb0).mono ?_
  rintro e w1 ⟨rfl, hb1⟩
  obtain ⟨c0, c1, c2, c3⟩ := Box.keep ⟨b0, b1, b2, b3⟩ hb1 hgW
  have hb2 := hb0.trans (hb1.mono hb0.size)
  clear b0 b1 b2 b3 hb1
  cases q1 with
  | false =>
    go_wp2_with fail
    go_ret
    exact ⟨ret_bool (by rw [HR.out, Bool.false_and]), hb2⟩
  | true =>
    go_wp2_with fail
    refine (HO.out _ hb2).mono ?_
    rintro e w2 ⟨rfl, hb3⟩
    have hb4 := hb2.trans (hb3.mono hb2.size)
    go_wp2_with fail
    go_ret
    exact ⟨ret_bool (by rw [HR.out, Bool.true_and]), hb4⟩
end Go.Proofs.YtpleaopefngafaaDoor
