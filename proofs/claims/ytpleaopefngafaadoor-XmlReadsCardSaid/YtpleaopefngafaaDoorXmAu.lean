/- Whether an element can be: isRight, fits and Right of package xml, for any element that reads as a tree and whose texts and lists are of at most 2^40. -/
import Derived.Test.YtpleaopefngafaaDoorXmAt
namespace Go.Proofs.YtpleaopefngafaaDoor
set_option maxRecDepth 8000
open Go.RowKit

theorem ownL_all : ∀ ks : List Xm.N, Xm.ownL ks = ks.all Xm.own
  | [] => by rw [Xm.ownL]; rfl
  | k :: ks => by rw [Xm.ownL, List.all_cons, ownL_all ks]
theorem own_eq (n : Xm.N) : Xm.own n = (Xm.nameB n.name && (attrsOk n.attrs && (Xm.shownB n.text && ((n.text.isEmpty || n.kids.isEmpty) && n.kids.all Xm.own)))) := by
  cases n with
  | mk nm ats tx ks =>
    rw [Xm.own, ownL_all]
    unfold attrsOk
    show (Xm.nameB nm && ats.all Xm.attrB && Xm.distinct (ats.map (·.1)) && Xm.shownB tx && (tx.isEmpty || ks.isEmpty) && ks.all Xm.own) = (Xm.nameB nm && ((ats.all Xm.attrB && Xm.distinct (ats.map (·.1))) && (Xm.shownB tx && ((tx.isEmpty || ks.isEmpty) && ks.all Xm.own))))
    simp only [Bool.and_assoc]
def OwnRel (W : World) (n : Xm.N) (i : Value) (wr : World) : Prop :=
  ∃ k : Nat, k ≤ n.kids.length ∧ i = .int .i64 (k : Int) ∧ (n.kids.take k).all Xm.own = true ∧ Below W.heap.size W wr

set_option maxHeartbeats 4000000 in
theorem isRight_any (M : Nat) : ∀ (n : Xm.N), Xm.size n ≤ M → ∀ (v : Value) (w : World), Tr w w.heap.size n v → All (Lim 1099511627776) n →
    Calls Tryd.prog 19 #[v] w fun e w' => e = .returned (.bool (Xm.own n)) ∧ Below w.heap.size w w' := by
  induction M with
  | zero =>
    intro n hM
    exfalso
    cases n with
    | mk nm ats tx ks => rw [Xm.size] at hM; omega
  | succ M ih =>
    intro n hM v w ht hL
    obtain ⟨A, ca, K, ck, hv, hpc, hkids⟩ := ht.form
    subst hv
    unfold nV
    have hOW := own_eq n
    have hh := hL.here
    have hC1 := fun w' => isName_any n.name w' (by have := hh.2.2.1; omega)
    have hC3 := fun w' => isShown_any n.text w' (by have := hh.2.2.2.1; omega)
    obtain ⟨m, hm⟩ : ∃ m, n.kids.length = m := ⟨_, rfl⟩
    have hm63 : m ≤ 1099511627776 := by have := hh.2.1; omega
    obtain ⟨na, hna⟩ : ∃ m, n.attrs.length = m := ⟨_, rfl⟩
    have hna63 : na ≤ 1099511627776 := by have := hh.1; omega
    have hkE : n.kids.isEmpty = decide (m = 0) := by rw [← hm]; cases n.kids <;> rfl
    rw [hkE] at hOW
    obtain ⟨nn, hnn⟩ : ∃ y, n.name = y := ⟨_, rfl⟩
    obtain ⟨nt, hnt⟩ : ∃ y, n.text = y := ⟨_, rfl⟩
    rw [hm, hna, hnn, hnt]
    rw [hnn] at hC1 hOW
    rw [hnt] at hC3 hOW
    have HM := Lib.hid hm
    have HNA := Lib.hid hna
    clear hm hna hnn hnt ht hkE
    obtain ⟨W, hW⟩ : ∃ W, W = w.alloc (.cells #[.string (S nn), .slice A na ca, .string (S nt), .slice K m ck] 26) := ⟨_, rfl⟩
    obtain ⟨g, hg⟩ : ∃ g, g = w.heap.size := ⟨_, rfl⟩
    have hbox : Box W g (.string (S nn)) (.slice A na ca) (.string (S nt)) (.slice K m ck) := by rw [hW]; exact Box.new w _ _ _ _ _ g hg
    have hb0 : Below w.heap.size w W := by rw [hW]; exact (Below.refl _ _).alloc (Nat.le_refl _) _
    have hgW : g < W.heap.size := by rw [hW, hg]; simp
    have hwW : w.heap.size ≤ W.heap.size := hb0.size
    have HW := Lib.hid hW
    have HG := Lib.hid hg
    clear hW hg
    have hC2 : ∀ w', Below W.heap.size W w' → Calls Tryd.prog 30 #[.slice A na ca] w' fun e w'' => e = .returned (.bool (attrsOk n.attrs)) ∧ Below w'.heap.size w' w'' := fun w' hb' => by
      have hb2 : Below w.heap.size w w' := hb0.trans (hb'.mono hwW)
      exact areAttrs_any A ca na n.attrs w' HNA.out ((hpc.keepB hb2 (Nat.le_refl _)).moreB hb2.size) hna63 hh.2.2.2.2
    obtain ⟨q1, hq1⟩ : ∃ q, Xm.nameB nn = q := ⟨_, rfl⟩
    obtain ⟨q2, hq2⟩ : ∃ q, attrsOk n.attrs = q := ⟨_, rfl⟩
    obtain ⟨q3, hq3⟩ : ∃ q, Xm.shownB nt = q := ⟨_, rfl⟩
    rw [hq1] at hC1 hOW
    rw [hq2] at hC2 hOW
    rw [hq3] at hC3 hOW
    have HC1 := Lib.hid hC1
    have HC2 := Lib.hid hC2
    have HC3 := Lib.hid hC3
    have HOW := Lib.hid hOW
    have HIH := Lib.hid ih
    have HKIDS := Lib.hid hkids
    have HH := Lib.hid hh
    clear hC1 hC2 hC3 hOW hq1 hq2 hq3 hh ih hkids hpc
    obtain ⟨b0, b1, b2, b3⟩ := hbox
    go_enter Tryd.func19, Tryd.ntmps19
    go_wp2_with fail
    rw [← HW.out, ← HG.out]
    refine (HC1.out _).mono ?_
    rintro e w1 ⟨rfl, hb1⟩
    obtain ⟨c0, c1, c2, c3⟩ := Box.keep ⟨b0, b1, b2, b3⟩ hb1 hgW
    clear b0 b1 b2 b3
    cases q1 with
    | false =>
      go_wp2_with fail
      go_ret
      exact ⟨ret_bool (by rw [HOW.out, Bool.false_and]), hb0.trans (hb1.mono hwW)⟩
    | true =>
      go_wp2_with fail
      refine (HC2.out _ hb1).mono ?_
      rintro e w2 ⟨rfl, hb2'⟩
      have hb2 := hb1.trans (hb2'.mono hb1.size)
      obtain ⟨d0, d1, d2, d3⟩ := Box.keep ⟨c0, c1, c2, c3⟩ hb2' (Nat.lt_of_lt_of_le hgW hb1.size)
      clear c0 c1 c2 c3 hb2' hb1
      cases q2 with
      | false =>
        go_wp2_with fail
        go_ret
        exact ⟨ret_bool (by rw [HOW.out, Bool.true_and, Bool.false_and]), hb0.trans (hb2.mono hwW)⟩
      | true =>
        go_wp2_with fail
        refine (HC3.out _).mono ?_
        rintro e w' ⟨rfl, rfl⟩
        cases q3 with
        | false =>
          go_wp2_with fail
          go_ret
          exact ⟨ret_bool (by rw [HOW.out, Bool.true_and, Bool.true_and, Bool.false_and]), hb0.trans (hb2.mono hwW)⟩
        | true =>
          have hbw2 : Below w.heap.size w w2 := hb0.trans (hb2.mono hwW)
          have hg2 : g < w2.heap.size := Nat.lt_of_lt_of_le hgW hb2.size
          have HOW2 : Hid (Xm.own n = ((nt.isEmpty || decide (m = 0)) && n.kids.all Xm.own)) := Lib.hid (by rw [HOW.out, Bool.true_and, Bool.true_and, Bool.true_and])
          by_cases hnt : nt = []
          · have hq1 : (S nt).toList = [] := by rw [S_list]; exact hnt
            have hq2 : (S nt).toList.isEmpty = true := by rw [hq1]; rfl
            have HOW3 : Hid (Xm.own n = n.kids.all Xm.own) := Lib.hid (by rw [HOW2.out, hnt]; rfl)
            clear hnt
            go_wp2_with fail
            go_loopw [33] (fun i wr => OwnRel w2 n i wr) (fun i _ => m - (intOf i).toNat)
            case atStart => exact ⟨0, Nat.zero_le _, rfl, by rw [List.take_zero]; rfl, Below.refl _ _⟩
            case round =>
              obtain ⟨k, hk, rfl, hall, hbr⟩ := hrel
              have hml := HM.out
              have HALL := Lib.hid hall
              have hbw : Below w.heap.size w wr := hbw2.trans (hbr.mono hbw2.size)
              clear hall
              by_cases hlt : k < m
              · have hkl : k < n.kids.length := by omega
                obtain ⟨b, off, rfl, hbl, htl⟩ := HKIDS.out (by omega)
                obtain ⟨A', ca', K', ck', e0, e1, e2, e3, htk⟩ := TrL.get n.kids 0 k hkl htl
                rw [Nat.zero_add] at e0 e1 e2 e3
                have hcell : ∀ j, wr.cell? ⟨b, j, none⟩ = w.cell? ⟨b, j, none⟩ := fun j => hbw.cell (p := ⟨b, j, none⟩) hbl
                have c0 := (hcell _).trans e0
                have c1 := (hcell _).trans e1
                have c2 := (hcell _).trans e2
                have c3 := (hcell _).trans e3
                have hsz := size_kid hkl
                have HSZ : Hid (Xm.size n.kids[k] ≤ M) := Lib.hid (by omega)
                have HLK := Lib.hid (hL.kid hkl)
                have HBAD : Hid (Xm.own n.kids[k] = false → Xm.own n = false) := Lib.hid (fun h => by
                  rw [HOW3.out, List.all_eq_false]
                  exact ⟨_, List.getElem_mem hkl, by rw [h]; decide⟩)
                have HSN : Hid (Xm.own n.kids[k] = true → (n.kids.take (k + 1)).all Xm.own = true) := Lib.hid (fun h => by
                  rw [List.take_succ_eq_append_getElem hkl, List.all_append, HALL.out, List.all_cons, h]; rfl)
                obtain ⟨x, hx⟩ : ∃ x, x = n.kids[k] := ⟨_, rfl⟩
                rw [← hx] at htk HSZ HLK HBAD HSN c0 c1 c2 c3
                clear hx e0 e1 e2 e3 htl hcell hsz hml
                have hk0 : (0 : Int) ≤ (k : Int) := by omega
                have hkI : (k : Int) < (m : Int) := by omega
                obtain ⟨nx, hnx⟩ : ∃ y, y = x.name := ⟨_, rfl⟩
                obtain ⟨ax, hax⟩ : ∃ y, y = x.attrs.length := ⟨_, rfl⟩
                obtain ⟨tx, htx⟩ : ∃ y, y = x.text := ⟨_, rfl⟩
                obtain ⟨kx, hkx⟩ : ∃ y, y = x.kids.length := ⟨_, rfl⟩
                rw [← hnx, ← hax, ← htx, ← hkx] at htk
                rw [← hnx] at c0
                rw [← hax] at c1
                rw [← htx] at c2
                rw [← hkx] at c3
                clear hnx hax htx hkx
                have hb5 : Below w.heap.size w (wr.alloc (.cells #[.string (S nx), .slice A' ax ca', .string (S tx), .slice K' kx ck'] 26)) := hbw.alloc hbw.size _
                have HI := Lib.hid (HIH.out x HSZ.out _ _ (Tr.moreB hb5.size x _ (Tr.keepB hb5 (Nat.le_refl _) x _ htk)) HLK.out)
                have hb6 : Below w2.heap.size w2 (wr.alloc (.cells #[.string (S nx), .slice A' ax ca', .string (S tx), .slice K' kx ck'] 26)) := hbr.alloc hbr.size _
                have HB5 := Lib.hid hb5
                have HB6 := Lib.hid hb6
                obtain ⟨qx, hqx⟩ : ∃ q, Xm.own x = q := ⟨_, rfl⟩
                rw [hqx] at HI HBAD HSN
                clear hb5 hb6 htk hqx hbr hbw
                cases qx with
                | false =>
                  go_wp2_with fail
                  refine HI.out.mono ?_
                  rintro e w3 ⟨rfl, hb7⟩
                  go_wp2_with fail
                  go_ret
                  exact ⟨ret_bool (HBAD.out trivial).symm, HB5.out.trans (hb7.mono HB5.out.size)⟩
                | true =>
                  go_wp2_with fail
                  refine HI.out.mono ?_
                  rintro e w3 ⟨rfl, hb7⟩
                  have hb8 := HB6.out.trans (hb7.mono HB6.out.size)
                  clear hb7
                  go_wp2_with fail
                  go_roundw
                  case rel => exact ⟨k + 1, by have := HM.out; omega, by go_num, HSN.out trivial, hb8⟩
                  case measure => simp [intOf]; omega
              · have HT : Hid (Xm.own n = true) := Lib.hid (by
                  have := HALL.out
                  rw [List.take_of_length_le (by omega)] at this
                  rw [HOW3.out, this])
                clear hml
                go_wp2_with fail
                go_ret
                exact ⟨ret_bool HT.out.symm, hbw⟩
          · have hq1 : ((S nt).toList == []) = false := by rw [S_list]; simpa using hnt
            have hq2 : (S nt).toList.isEmpty = false := by rw [S_list]; simpa using hnt
            have hE : nt.isEmpty = false := by simpa using hnt
            by_cases h0 : m = 0
            · have HT : Hid (Xm.own n = true) := Lib.hid (by
                have hml := HM.out
                have : n.kids = [] := List.length_eq_zero_iff.1 (by omega)
                rw [HOW2.out, hE, this, h0]
                rfl)
              subst h0
              clear hnt hE
              go_wp2_with fail
              go_loopw [33] (fun i wr => i = .int .i64 0 ∧ wr = w2) (fun _ _ => 0)
              case atStart => exact ⟨rfl, rfl⟩
              case round =>
                obtain ⟨rfl, rfl⟩ := hrel
                go_wp2_with fail
                go_ret
                exact ⟨ret_bool HT.out.symm, hbw2⟩
            · have HF : Hid (Xm.own n = false) := Lib.hid (by
                rw [HOW2.out, hE, show decide (m = 0) = false by simpa using h0]
                rfl)
              have hd : decide (0 < m) = true := by simpa using (by omega : 0 < m)
              clear hnt hE h0
              go_wp2_with fail
              go_ret
              exact ⟨ret_bool HF.out.symm, hbw2⟩

theorem All.mono {P Q : Xm.N → Prop} (h : ∀ n, P n → Q n) (n : Xm.N) (hn : All P n) : All Q n := by
  have hl : ∀ (M : Nat) (n : Xm.N), Xm.size n ≤ M → All P n → All Q n := by
    intro M
    induction M with
    | zero => intro n hM; exfalso; cases n with | mk nm ats tx ks => rw [Xm.size] at hM; omega
    | succ M ih =>
      intro n hM hn
      cases n with
      | mk nm ats tx ks =>
        rw [Xm.size] at hM
        unfold All at hn ⊢
        refine ⟨h _ hn.1, ?_⟩
        have hk : ∀ ks : List Xm.N, Xm.sizeL ks ≤ M → AllL P ks → AllL Q ks := by
          intro ks
          induction ks with
          | nil => intro _ _; unfold AllL; trivial
          | cons k ks ih2 =>
            intro hs ha
            rw [Xm.sizeL] at hs
            unfold AllL at ha ⊢
            exact ⟨ih k (by omega) ha.1, ih2 (by omega) ha.2⟩
        exact hk ks (by omega) hn.2
  exact hl _ n (Nat.le_refl _) hn
theorem Lim.mono {a b : Nat} (h : a ≤ b) (n : Xm.N) (hn : Lim a n) : Lim b n :=
  ⟨Nat.le_trans hn.1 h, Nat.le_trans hn.2.1 h, Nat.le_trans hn.2.2.1 h, Nat.le_trans hn.2.2.2.1 h, fun p hp => ⟨Nat.le_trans (hn.2.2.2.2 p hp).1 h, Nat.le_trans (hn.2.2.2.2 p hp).2 h⟩⟩
theorem leftI_ge (o : Option Nat) : decide (0 ≤ leftI o) = o.isSome := by
  cases o with
  | none => rfl
  | some q => simp [leftI]

set_option maxHeartbeats 800000 in
theorem fits_any (n : Xm.N) (v : Value) (w : World) (ht : Tr w w.heap.size n v) (hL : All (Lim 1099511627776) n) :
    Calls Tryd.prog 18 #[v] w fun e w' => e = .returned (.bool (Xm.few n 8 200).isSome) ∧ Below w.heap.size w w' := by
  obtain ⟨A, ca, K, ck, hv, _, _⟩ := ht.form
  subst hv
  have hb0 : Below w.heap.size w (w.alloc (.cells #[.string (S n.name), .slice A n.attrs.length ca, .string (S n.text), .slice K n.kids.length ck] 26)) := (Below.refl _ _).alloc (Nat.le_refl _) _
  have HC := Lib.hid (room_any _ n (Nat.le_refl _) 8 200 _ _ (Tr.moreB hb0.size n _ (Tr.keepB hb0 (Nat.le_refl _) n _ ht)) (All.mono (Lim.mono (by omega)) n hL) (by omega) (by omega))
  obtain ⟨z, hz⟩ : ∃ z, z = leftI (Xm.few n 8 200) := ⟨_, rfl⟩
  have hd : decide (0 ≤ z) = (Xm.few n 8 200).isSome := by rw [hz]; exact leftI_ge _
  rw [← hz] at HC
  obtain ⟨r, hr⟩ : ∃ r, (Xm.few n 8 200).isSome = r := ⟨_, rfl⟩
  rw [hr] at hd ⊢
  unfold nV at HC ⊢
  clear hz hr ht
  go_enter Tryd.func18, Tryd.ntmps18
  go_wp2_with fail
  refine HC.out.mono ?_
  rintro e w1 ⟨rfl, hb1⟩
  have hb2 := hb0.trans (hb1.mono hb0.size)
  go_wp2_with fail
  go_ret
  exact ⟨rfl, hb2⟩

set_option maxHeartbeats 800000 in
theorem right_any (n : Xm.N) (v : Value) (w : World) (ht : Tr w w.heap.size n v) (hL : All (Lim 1099511627776) n) :
    Calls Tryd.prog 11 #[v] w fun e w' => e = .returned (.bool (Xm.right n)) ∧ Below w.heap.size w w' := by
  obtain ⟨A, ca, K, ck, hv, _, _⟩ := ht.form
  subst hv
  have HR := Lib.hid (show Xm.right n = ((Xm.few n 8 200).isSome && Xm.own n) from rfl)
  have hT : ∀ w', Below w.heap.size w w' → Tr w' w'.heap.size n (nV n.name A n.attrs.length ca n.text K n.kids.length ck) := fun w' hb => ht.next hb
  have HT := Lib.hid hT
  have HF : Hid (∀ w', Below w.heap.size w w' → Calls Tryd.prog 18 #[nV n.name A n.attrs.length ca n.text K n.kids.length ck] w' fun e w'' => e = .returned (.bool (Xm.few n 8 200).isSome) ∧ Below w'.heap.size w' w'') := Lib.hid (fun w' hb => fits_any n _ w' (HT.out w' hb) hL)
  have HO : Hid (∀ w', Below w.heap.size w w' → Calls Tryd.prog 19 #[nV n.name A n.attrs.length ca n.text K n.kids.length ck] w' fun e w'' => e = .returned (.bool (Xm.own n)) ∧ Below w'.heap.size w' w'') := Lib.hid (fun w' hb => isRight_any _ n (Nat.le_refl _) _ w' (HT.out w' hb) hL)
  obtain ⟨q1, hq1⟩ : ∃ q, (Xm.few n 8 200).isSome = q := ⟨_, rfl⟩
  rw [hq1] at HR HF
  obtain ⟨q2, hq2⟩ : ∃ q, Xm.own n = q := ⟨_, rfl⟩
  rw [hq2] at HR HO
  obtain ⟨W, hW⟩ : ∃ W, W = w.alloc (.cells #[.string (S n.name), .slice A n.attrs.length ca, .string (S n.text), .slice K n.kids.length ck] 26) := ⟨_, rfl⟩
  obtain ⟨g, hg⟩ : ∃ g, g = w.heap.size := ⟨_, rfl⟩
  have hbox : Box W g (.string (S n.name)) (.slice A n.attrs.length ca) (.string (S n.text)) (.slice K n.kids.length ck) := by rw [hW]; exact Box.new w _ _ _ _ _ g hg
  have hb0 : Below w.heap.size w W := by rw [hW]; exact (Below.refl _ _).alloc (Nat.le_refl _) _
  have hgW : g < W.heap.size := by rw [hW, hg]; simp
  have HW := Lib.hid hW
  have HG := Lib.hid hg
  unfold nV at HF HO ⊢
  clear hW hg hq1 hq2 ht hT
  obtain ⟨b0, b1, b2, b3⟩ := hbox
  go_enter Tryd.func11, Tryd.ntmps11
  go_wp2_with fail
  rw [← HW.out, ← HG.out]
  refine (HF.out _ hb0).mono ?_
  rintro e w1 ⟨rfl, hb1⟩
  obtain ⟨c0, c1, c2, c3⟩ := Box.keep ⟨b0, b1, b2, b3⟩ hb1 hgW
  have hb2 := hb0.trans (hb1.mono hb0.size)
  clear b0 b1 b2 b3 hb1
  cases q1 with
  | false =>
    go_wp2_with fail
    go_ret
    exact ⟨ret_bool (by rw [HR.out, Bool.false_and]), hb2⟩
  | true =>
    go_wp2_with fail
    refine (HO.out _ hb2).mono ?_
    rintro e w2 ⟨rfl, hb3⟩
    have hb4 := hb2.trans (hb3.mono hb2.size)
    go_wp2_with fail
    go_ret
    exact ⟨ret_bool (by rw [HR.out, Bool.true_and]), hb4⟩
end Go.Proofs.YtpleaopefngafaaDoor
