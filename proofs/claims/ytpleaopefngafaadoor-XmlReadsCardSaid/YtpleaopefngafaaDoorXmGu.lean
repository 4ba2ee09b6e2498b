/- What is guessed of a whole text: guess of package xml, for texts of at most 2^24 bytes. -/
import Derived.Test.YtpleaopefngafaaDoorXmGs
import Derived.StillTailTactics
import Derived.Deep.AppendLies
namespace Go.Proofs.YtpleaopefngafaaDoor
set_option maxRecDepth 8000
open Go.RowKit

theorem Tryd.infoNode : (Tryd.prog.info? 26).map (fun i => (i.zero, i.size, i.bytes)) = some (some (.agg #[.string ⟨#[]⟩, .slice none 0 0, .string ⟨#[]⟩, .slice none 0 0]), 4, 80) := by kernel_rfl
def GuRel (w : World) (g2 g3 : Nat) (G : Xm.N) (sv ov iv : Value) (wr : World) : Prop :=
  ∃ (k : Nat) (r : List UInt8) (rs : List Xm.N) (O : Option Addr) (cap : Nat) (vs : List Value) (F : List Nat), k ≤ 400 ∧ iv = .int .i64 k ∧ sv = .string (S r) ∧ r.length ≤ 16777216 ∧ ov = .slice O rs.length cap ∧ G = Xm.guess (400 - k) rs r ∧ Xm.sizeL rs ≤ k ∧
    GS g3 rs O cap vs F wr ∧ BN wr g2 (.string ⟨#[]⟩) (.slice none 0 0) (.string ⟨#[]⟩) (.slice none 0 0) ∧ BN wr g3 (.string ⟨#[]⟩) (.slice none 0 0) (.string ⟨#[]⟩) (.slice none 0 0) ∧ Below w.heap.size w wr
theorem cutM_lens (r : List UInt8) : (Xm.cutM r).1.length ≤ r.length ∧ (Xm.cutM r).2.1.length ≤ r.length ∧ (Xm.cutM r).2.2.length ≤ r.length := by
  have h := cut_lens r [62]
  unfold Xm.cutM
  exact ⟨h.1, Nat.le_trans (List.takeWhile_prefix _).length_le h.2, Nat.le_trans (List.dropWhile_suffix _).length_le h.2⟩
theorem pcells_of {base : Nat} {w : World} {A : Option Addr} {n cap : Nat} {l : List Pct.PairL} (h : PRow base w (.slice A n cap) l) : PCells w w.heap.size A l := by
  obtain ⟨A', cap', e, h'⟩ := h.reads
  injection e with e _ _
  rw [e]
  exact h'

set_option maxHeartbeats 8000000 in
theorem guess_any (s : List UInt8) (w : World) (hE : EnvX w) (hl : s.length ≤ 16777216) :
    Calls Tryd.prog 13 #[.string (S s)] w fun e w' => ∃ v F, e = .returned v ∧ FT w' (Xm.guess 400 [] s) v F ∧ (∀ b ∈ F, w.heap.size ≤ b ∧ b < w'.heap.size) ∧ Below w.heap.size w w' := by
  obtain ⟨i0, hi0, hz0, hz1, hz2⟩ := info_parts Tryd.infoNode
  obtain ⟨G, hG⟩ : ∃ G, G = Xm.guess 400 [] s := ⟨_, rfl⟩
  rw [← hG]
  have HG0 := Lib.hid hG
  clear hG
  go_enter Tryd.func13, Tryd.ntmps13
  go_wp2_with fail
  go_step3
  go_wp2_with fail
  go_step3
  go_wp2_with fail
  obtain ⟨w0, hw0⟩ : ∃ w0, w0 = (w.alloc (.cells #[.string ⟨#[]⟩, .slice none 0 0, .string ⟨#[]⟩, .slice none 0 0] 26)).alloc (.cells #[.string ⟨#[]⟩, .slice none 0 0, .string ⟨#[]⟩, .slice none 0 0] 26) := ⟨_, rfl⟩
  obtain ⟨g2, hg2⟩ : ∃ g2, g2 = w.heap.size := ⟨_, rfl⟩
  obtain ⟨g3, hg3⟩ : ∃ g3, g3 = w.heap.size + 1 := ⟨_, rfl⟩
  rw [← hw0, ← hg3, ← hg2]
  have HW0 := Lib.hid hw0
  have hwg2 : w.heap.size ≤ g2 := by omega
  have hlt23 : g2 < g3 := by omega
  have hwg3 : w.heap.size ≤ g3 := by omega
  have HG2 := Lib.hid hg2
  have HG3 := Lib.hid hg3
  clear hw0 hg2 hg3
  go_loopw [0, 4, 8] (fun sv ov iv wr => GuRel w g2 g3 G sv ov iv wr) (fun _ _ iv _ => 400 - (intOf iv).toNat)
  case atStart =>
    have h2 : BN (w.alloc (.cells #[.string ⟨#[]⟩, .slice none 0 0, .string ⟨#[]⟩, .slice none 0 0] 26)) g2 (.string ⟨#[]⟩) (.slice none 0 0) (.string ⟨#[]⟩) (.slice none 0 0) := by rw [HG2.out]; exact heap_alloc_new w _
    have h3 : BN w0 g3 (.string ⟨#[]⟩) (.slice none 0 0) (.string ⟨#[]⟩) (.slice none 0 0) := by
      rw [HW0.out, HG3.out]
      have := heap_alloc_new (w.alloc (.cells #[.string ⟨#[]⟩, .slice none 0 0, .string ⟨#[]⟩, .slice none 0 0] 26)) (.cells #[.string ⟨#[]⟩, .slice none 0 0, .string ⟨#[]⟩, .slice none 0 0] 26)
      simpa [BN] using this
    refine ⟨0, s, [], none, 0, [], [], by omega, rfl, rfl, hl, rfl, HG0.out, Nat.le_refl _, ⟨World.ownsRow_nil _ _ _ _, ?_, by simp [blkOf], fun b hb => absurd hb (by simp)⟩, ?_, h3, ?_⟩
    · unfold FTL; exact ⟨rfl, rfl⟩
    · rw [HW0.out]; exact h2.alloc _
    · rw [HW0.out]; exact ((Below.refl _ _).alloc (Nat.le_refl _) _).alloc (by simp) _
  case round =>
    obtain ⟨k, r, rs, O, cap, vs, F, hk, rfl, rfl, hrl, rfl, hgs, hsz, hst, hb2, hb3, hbel⟩ := hrel
    have hEr : EnvX wr := hE.next hbel
    have hg23 : g2 ≠ g3 := by omega
    by_cases hk4 : k < 400
    · obtain ⟨f, hf⟩ : ∃ f, 400 - k = f + 1 := ⟨400 - k - 1, by omega⟩
      have hf2 : f = 400 - (k + 1) := by omega
      rw [hf, Xm.guess_succ] at hgs
      have hlens := cutM_lens r
      have hcut := cutMark_any r
      obtain ⟨⟨m, tx, r2⟩, hcm⟩ : ∃ q, Xm.cutM r = q := ⟨_, rfl⟩
      rw [hcm] at hgs hlens hcut
      dsimp only at hgs hlens hcut
      have HCM : Hid (∀ w' : World, EnvX w' → Calls Tryd.prog 22 #[.string (S r)] w' fun e w'' => e = .returned (.tuple #[.string (S m), .string (S tx), .string (S r2)]) ∧ Below w'.heap.size w' w'') := Lib.hid (fun w' h => hcut w' h (by omega))
      have hP1 := fun w' => Tryd.strings_HasPrefix (S m) ⟨#[60]⟩ w'
      have hP2 := fun w' => Tryd.strings_HasPrefix (S m) ⟨#[60, 47]⟩ w'
      have e1 : (S m).data.toList = m := by simp [S]
      rw [e1] at hP1 hP2
      have hk0 : (0 : Int) ≤ (k : Int) := by omega
      have hk1 : (k : Int) < 400 := by omega
      obtain ⟨hml, htl, hr2l⟩ := hlens
      have hm16 : m.length ≤ 16777216 := by omega
      have ht16 : tx.length ≤ 16777216 := by omega
      have hr16 : r2.length ≤ 16777216 := by omega
      have hsz1 : (S m).size = m.length := rfl
      clear hcm hcut e1 hml htl hr2l
      obtain ⟨b1, hb1⟩ : ∃ b, Lib.hasPrefix m [60] = b := ⟨_, rfl⟩
      have HP1 : Hid (∀ w' : World, Calls Tryd.prog 23 #[.string (S m), .string ⟨#[60]⟩] w' fun e w'' => e = .returned (.bool b1) ∧ w' = w'') := Lib.hid (fun w' => (hP1 w').mono (by rintro e w'' ⟨rfl, rfl⟩; exact ⟨by rw [← hb1], rfl⟩))
      obtain ⟨b2, hb2'⟩ : ∃ b, Lib.hasPrefix m [60, 47] = b := ⟨_, rfl⟩
      have HP2 : Hid (∀ w' : World, Calls Tryd.prog 23 #[.string (S m), .string ⟨#[60, 47]⟩] w' fun e w'' => e = .returned (.bool b2) ∧ w' = w'') := Lib.hid (fun w' => (hP2 w').mono (by rintro e w'' ⟨rfl, rfl⟩; exact ⟨by rw [← hb2'], rfl⟩))
      clear hP1 hP2
      rw [hb1, hb2'] at hgs
      have hm1 : b1 = true → 1 ≤ m.length := fun e => by
        rw [← hb1] at e
        cases m with
        | nil => simp [Lib.hasPrefix] at e
        | cons c l => simp
      clear hb1 hb2'
      cases b1 with
      | false =>
        have HG : Hid (G = Xm.zero) := Lib.hid hgs
        clear hgs hsz hst hm1 hsz1
        go_wp2_with fail
        refine (HCM.out wr hEr).mono ?_
        rintro e w1 ⟨rfl, hbn⟩
        have B2 := hb2.next hbn
        have B3 := hb3.next hbn
        have hbw := hbel.trans (hbn.mono hbel.size)
        clear hb2 hb3 hbn hbel
        go_wp2_with fail
        refine (HP1.out _).mono ?_
        rintro e w' ⟨rfl, rfl⟩
        have z0 := B3.c0
        have z1 := B3.c1
        have z2 := B3.c2
        have z3 := B3.c3
        have k1 := B2.set0 (.string ⟨#[]⟩)
        have k2 := k1.set1 (.slice none 0 0)
        have k3 := k2.set2 (.string ⟨#[]⟩)
        have k4 := k3.set3 (.slice none 0 0)
        have c0 := B2.c0
        have f0 := B2.fr 0
        have c1 := k1.c1
        have f1 := k1.fr 1
        have c2 := k2.c2
        have f2 := k2.fr 2
        have c3 := k3.c3
        have f3 := k3.fr 3
        have q0 := k4.c0
        have q1 := k4.c1
        have q2 := k4.c2
        have q3 := k4.c3
        have hbb := ((((hbw.setCell (p := ⟨g2, 0, none⟩) hwg2 (.string ⟨#[]⟩)).setCell (p := ⟨g2, 1, none⟩) hwg2 (.slice none 0 0)).setCell (p := ⟨g2, 2, none⟩) hwg2 (.string ⟨#[]⟩)).setCell (p := ⟨g2, 3, none⟩) hwg2 (.slice none 0 0))
        have HTR : Hid (FT ((((w1.setCell ⟨g2, 0, none⟩ (.string ⟨#[]⟩)).setCell ⟨g2, 1, none⟩ (.slice none 0 0)).setCell ⟨g2, 2, none⟩ (.string ⟨#[]⟩)).setCell ⟨g2, 3, none⟩ (.slice none 0 0)) G (.agg #[.string ⟨#[]⟩, .slice none 0 0, .string ⟨#[]⟩, .slice none 0 0]) []) := Lib.hid (by rw [HG.out]; exact ft_zero _)
        have HLO : Hid (∀ b ∈ ([] : List Nat), w.heap.size ≤ b ∧ b < ((((w1.setCell ⟨g2, 0, none⟩ (.string ⟨#[]⟩)).setCell ⟨g2, 1, none⟩ (.slice none 0 0)).setCell ⟨g2, 2, none⟩ (.string ⟨#[]⟩)).setCell ⟨g2, 3, none⟩ (.slice none 0 0)).heap.size) := Lib.hid (fun b hb => absurd hb (by simp))
        have HBB := Lib.hid hbb
        clear hbb k1 k2 k3 k4 B2 B3 hbw
        go_wp2_with fail
        try rw [Exit.noGoto_ret]
        refine bodyPost_ret (v := .agg #[.string ⟨#[]⟩, .slice none 0 0, .string ⟨#[]⟩, .slice none 0 0]) ?_ rfl ⟨_, _, rfl, HTR.out, HLO.out, HBB.out⟩
        · simp [results, Tryd.results13, go_sem, q0, q1, q2, q3]
      | true =>
        rw [if_neg (by decide)] at hgs
        cases b2 with
        | false =>
          rw [if_pos rfl] at hgs
          have hgu := guessElement_any (m.drop 1) tx
          have hel : (Xm.elementG (m.drop 1) tx).kids = [] := rfl
          have hes : Xm.size (Xm.elementG (m.drop 1) tx) = 1 := rfl
          obtain ⟨el, hel0⟩ : ∃ el, el = Xm.elementG (m.drop 1) tx := ⟨_, rfl⟩
          rw [← hel0] at hgu hgs hel hes
          have HGU : Hid (∀ w' : World, EnvX w' → Calls Tryd.prog 24 #[.string (S (m.drop 1)), .string (S tx)] w' fun e w'' => ∃ A cap, e = .returned (.agg #[.string (S el.name), .slice A el.attrs.length cap, .string (S el.text), .slice none 0 0]) ∧ PRow w'.heap.size w'' (.slice A el.attrs.length cap) el.attrs ∧ Below w'.heap.size w' w'') := Lib.hid (fun w' h => hgu w' h (by rw [List.length_drop]; omega) ht16)
          have HX : Hid ((S m).extract 1 (S m).size = S (m.drop 1)) := Lib.hid (S_drop m 1)
          have h1m : 1 ≤ (S m).size := hm1 rfl
          have h1i : (1 : Int) ≤ ((S m).size : Int) := by omega
          have HGS := Lib.hid hgs
          clear hgu hel0 hgs hsz1 hm1
          go_wp2_with fail
          refine (HCM.out wr hEr).mono ?_
          rintro e w1 ⟨rfl, hbn⟩
          have hB2 := hb2.next hbn
          have hB3 := hb3.next hbn
          have hbw := hbel.trans (hbn.mono hbel.size)
          have hst1 := hst.next hbn
          have hE1 := hEr.next hbn
          have hBn3 := hB3.lt
          clear hb2 hb3 hbn hbel hst hEr
          go_wp2_with fail
          refine (HP1.out _).mono ?_
          rintro e w' ⟨rfl, rfl⟩
          go_wp2_with fail
          refine (HP2.out _).mono ?_
          rintro e w' ⟨rfl, rfl⟩
          go_wp2_with fail
          rw [HX.out]
          refine (HGU.out _ hE1).mono ?_
          rintro e w2 ⟨A, acap, rfl, hprow, hb12⟩
          have hB22 := hB2.next hb12
          have hB32 := hB3.next hb12
          have hbw2 := hbw.trans (hb12.mono hbw.size)
          have hst2 := hst1.next hb12
          have hlow1 := hst1.lt
          have hPl := World.ownsRow.lt hprow
          have hrow2 := hst2.row.alloc (.cells #[.string (S el.name), .slice A el.attrs.length acap, .string (S el.text), .slice none 0 0] 26)
          have hlen : rs.length ≤ 400 := by have := Xm.sizeL_len rs; omega
          have h63 : rs.length + 1 ≤ maxLen := by unfold maxLen; omega
          have hg3lt : g3 < w2.heap.size := hB32.lt
          clear hB2 hB3 hbw
          go_wp2_with (at_builtin; refine wpList_append_lies _ rfl (.tmp 27) (.tmp 32) _ rfl (g3 + 1) 26 i0 _ 4 80 Tryd.underlying24 hi0 hz0 hz1 hz2 rfl (by omega) _ rs.length (vs.flatMap cells4) rfl hrow2 ⟨w2.heap.size, 0, none⟩ 1 1 [.string (S el.name), .slice A el.attrs.length acap, .string (S el.text), .slice none 0 0] rfl rfl (World.news_of_block (cs := #[.string (S el.name), .slice A el.attrs.length acap, .string (S el.text), .slice none 0 0]) (t := 26) (fr := (0, 0)) (heap_alloc_new w2 _)) (by simp [Value.oneCell']) (by omega) h63 (by omega) (by simp; omega) (w2.heap.size + 1) (by simp) ?_; intro gg cap2 w9 hown10 hgrow hat hlt10)
          go_roundw
          case rel =>
            have hnw := (Below.refl w2.heap.size w2).alloc (Nat.le_refl _) (.cells #[.string (S el.name), .slice A el.attrs.length acap, .string (S el.text), .slice none 0 0] 26)
            have hst3 := hst2.next hnw
            have hsz3 := hnw.size
            have hFT : FT w2 el (nV el.name A el.attrs.length acap el.text none el.kids.length 0) (blkOf A) := by
              rw [hel]
              cases el with
              | mk nm ats tx2 ks =>
                have hel' : ks = [] := hel
                subst hel'
                unfold FT
                exact ⟨A, acap, none, 0, [], [], rfl, by simp [blkOf], pcells_of hprow, World.ownsRow_nil _ _ _ _, by unfold FTL; exact ⟨rfl, rfl⟩⟩
            have hAb : ∀ b ∈ blkOf A, w1.heap.size ≤ b ∧ b < w2.heap.size := by
              intro b hb
              cases A with
              | none => simp [blkOf] at hb
              | some a =>
                simp only [blkOf, List.mem_singleton] at hb
                rw [hb]
                exact hPl a.block rfl
            have hg31 : ∀ b ∈ blkOf A, g3 < b := fun b hb => by have := hAb b hb; have := hBn3; omega
            have hFT3 := FT.keep _ _ _ hFT (Same.below hnw (fun b hb => (hAb b hb).2))
            have hnd : (blkOf O ++ (F ++ blkOf A)).Nodup := by
              rw [← List.append_assoc]
              exact nodup_fresh hst1.nd (by cases A <;> simp [blkOf]) (fun b hb => (hlow1 b hb).2) (fun b hb => (hAb b hb).1)
            have hg := hst3.push hFT3 (fun b hb => ⟨hg31 b hb, Nat.lt_of_lt_of_le (hAb b hb).2 hsz3⟩) hnd (by rw [hel]; exact hown10) hgrow (by rw [show (w2.alloc (.cells #[.string (S el.name), .slice A el.attrs.length acap, .string (S el.text), .slice none 0 0] 26)).heap.size = w2.heap.size + 1 by simp]; exact hat)
            have hrow3 := World.ownsRow.lt hst2.row
            refine ⟨k + 1, r2, el :: rs, _, cap2, _, _, by omega, by go_num, rfl, hr16, by simp, ?_, ?_, hg, ?_, ?_, ?_⟩
            · rw [HGS.out, hf2]
            · show Xm.size el + Xm.sizeL rs ≤ k + 1
              omega
            · exact (hB22.alloc _).grown hgrow (fun e => by have := hrow3 g2 e; omega)
            · exact (hB32.alloc _).grown hgrow (fun e => by have := hrow3 g3 e; omega)
            · exact (hbw2.alloc hbw2.size _).grown hgrow (by simp; have := hbw2.size; omega) (fun k hk => by have := hrow3 k hk; omega)
          case measure => simp [intOf]; omega
        | true =>
          rw [if_neg (by decide)] at hgs
          clear hsz1 hm1
          cases rs with
          | nil =>
            have HG : Hid (G = Xm.zero) := Lib.hid hgs
            clear hgs hsz hst
            go_wp2_with fail
            refine (HCM.out wr hEr).mono ?_
            rintro e w1 ⟨rfl, hbn⟩
            have B2 := hb2.next hbn
            have B3 := hb3.next hbn
            have hbw := hbel.trans (hbn.mono hbel.size)
            clear hb2 hb3 hbn hbel
            go_wp2_with fail
            refine (HP1.out _).mono ?_
            rintro e w' ⟨rfl, rfl⟩
            go_wp2_with fail
            refine (HP2.out _).mono ?_
            rintro e w' ⟨rfl, rfl⟩
            have z0 := B3.c0
            have z1 := B3.c1
            have z2 := B3.c2
            have z3 := B3.c3
            have k1 := B2.set0 (.string ⟨#[]⟩)
            have k2 := k1.set1 (.slice none 0 0)
            have k3 := k2.set2 (.string ⟨#[]⟩)
            have k4 := k3.set3 (.slice none 0 0)
            have c0 := B2.c0
            have f0 := B2.fr 0
            have c1 := k1.c1
            have f1 := k1.fr 1
            have c2 := k2.c2
            have f2 := k2.fr 2
            have c3 := k3.c3
            have f3 := k3.fr 3
            have q0 := k4.c0
            have q1 := k4.c1
            have q2 := k4.c2
            have q3 := k4.c3
            have hbb := ((((hbw.setCell (p := ⟨g2, 0, none⟩) hwg2 (.string ⟨#[]⟩)).setCell (p := ⟨g2, 1, none⟩) hwg2 (.slice none 0 0)).setCell (p := ⟨g2, 2, none⟩) hwg2 (.string ⟨#[]⟩)).setCell (p := ⟨g2, 3, none⟩) hwg2 (.slice none 0 0))
            have HTR : Hid (FT ((((w1.setCell ⟨g2, 0, none⟩ (.string ⟨#[]⟩)).setCell ⟨g2, 1, none⟩ (.slice none 0 0)).setCell ⟨g2, 2, none⟩ (.string ⟨#[]⟩)).setCell ⟨g2, 3, none⟩ (.slice none 0 0)) G (.agg #[.string ⟨#[]⟩, .slice none 0 0, .string ⟨#[]⟩, .slice none 0 0]) []) := Lib.hid (by rw [HG.out]; exact ft_zero _)
            have HLO : Hid (∀ b ∈ ([] : List Nat), w.heap.size ≤ b ∧ b < ((((w1.setCell ⟨g2, 0, none⟩ (.string ⟨#[]⟩)).setCell ⟨g2, 1, none⟩ (.slice none 0 0)).setCell ⟨g2, 2, none⟩ (.string ⟨#[]⟩)).setCell ⟨g2, 3, none⟩ (.slice none 0 0)).heap.size) := Lib.hid (fun b hb => absurd hb (by simp))
            have HBB := Lib.hid hbb
            clear hbb k1 k2 k3 k4 B2 B3 hbw
            go_wp2_with fail
            try rw [Exit.noGoto_ret]
            refine bodyPost_ret (v := .agg #[.string ⟨#[]⟩, .slice none 0 0, .string ⟨#[]⟩, .slice none 0 0]) ?_ rfl ⟨_, _, rfl, HTR.out, HLO.out, HBB.out⟩
            · simp [results, Tryd.results13, go_sem, q0, q1, q2, q3]
          | cons t rs =>
            cases rs with
            | nil =>
              have HGS : Hid (G = t) := Lib.hid hgs
              clear hgs
              go_wp2_with fail
              refine (HCM.out wr hEr).mono ?_
              rintro e w1 ⟨rfl, hbn⟩
              have hst1 := hst.next hbn
              have hB2 := hb2.next hbn
              have hB3 := hb3.next hbn
              have hbw1 := hbel.trans (hbn.mono hbel.size)
              clear hb2 hb3 hbn hbel hst hEr
              go_wp2_with fail
              refine (HP1.out _).mono ?_
              rintro e w' ⟨rfl, rfl⟩
              go_wp2_with fail
              refine (HP2.out _).mono ?_
              rintro e w' ⟨rfl, rfl⟩
              obtain ⟨gO, c0', hO, hgO, hgO2⟩ := World.ownsRow.form hst1.row (by simp)
              injection hO with hO _ _
              subst hO
              have hft := hst1.ft
              rw [show [t].reverse = [] ++ [t] from rfl] at hft
              obtain ⟨va, tv, Fa, Ft, e1, e2, f1, f2⟩ := FTL.last hft
              unfold FTL at f1
              obtain ⟨rfl, rfl⟩ := f1
              obtain ⟨A, ca, K, ck, vsp, Gp, q1', q2', q3', q4', q5'⟩ := f2.form
              have hrow := hst1.row
              rw [e1, q1'] at hrow
              have hcl := World.ownsRow.cells hrow (g := gO) rfl
              have y0 := hcl 0 _ rfl
              have y1 := hcl 1 _ rfl
              have y2 := hcl 2 _ rfl
              have y3 := hcl 3 _ rfl
              rw [Addr.add_mid] at y0 y1 y2 y3
              have hFb : ∀ b ∈ Ft, g3 < b := fun b hb => (hst1.lo b (by rw [e2]; simpa using hb)).1
              have HFB : Hid (∀ b ∈ Ft, g3 < b ∧ b < w1.heap.size) := Lib.hid (fun b hb => hst1.lo b (by rw [e2]; simpa using hb))
              have n3 : g3 ∉ Ft := fun hm => absurd (hFb g3 hm) (Nat.lt_irrefl _)
              have n2 : g2 ∉ Ft := fun hm => by have := hFb g2 hm; omega
              have m1 := hB3.set0 (.string (S t.name))
              have m2 := m1.set1 (.slice A t.attrs.length ca)
              have m3 := m2.set2 (.string (S t.text))
              have m4 := m3.set3 (.slice K t.kids.length ck)
              have x0 := hB3.c0
              have v0 := hB3.fr 0
              have x1 := m1.c1
              have v1 := m1.fr 1
              have x2 := m2.c2
              have v2 := m2.fr 2
              have x3 := m3.c3
              have v3 := m3.fr 3
              have hFT4 := FT.keep _ _ _ f2 ((((Same.set (i := 0) n3 (.string (S t.name))).trans (Same.set (i := 1) n3 (.slice A t.attrs.length ca))).trans (Same.set (i := 2) n3 (.string (S t.text)))).trans (Same.set (i := 3) n3 (.slice K t.kids.length ck)))
              have B2' := (((hB2.far (i := 0) hg23 (.string (S t.name))).far (i := 1) hg23 (.slice A t.attrs.length ca)).far (i := 2) hg23 (.string (S t.text))).far (i := 3) hg23 (.slice K t.kids.length ck)
              have hbw' := (((hbw1.setCell (p := ⟨g3, 0, none⟩) hwg3 (.string (S t.name))).setCell (p := ⟨g3, 1, none⟩) hwg3 (.slice A t.attrs.length ca)).setCell (p := ⟨g3, 2, none⟩) hwg3 (.string (S t.text))).setCell (p := ⟨g3, 3, none⟩) hwg3 (.slice K t.kids.length ck)
              obtain ⟨wx, hwx⟩ : ∃ wx, wx = (((w1.setCell ⟨g3, 0, none⟩ (.string (S t.name))).setCell ⟨g3, 1, none⟩ (.slice A t.attrs.length ca)).setCell ⟨g3, 2, none⟩ (.string (S t.text))).setCell ⟨g3, 3, none⟩ (.slice K t.kids.length ck) := ⟨_, rfl⟩
              have HFT4 : Hid (FT wx t (nV t.name A t.attrs.length ca t.text K t.kids.length ck) Ft) := Lib.hid (by rw [hwx, ← q1']; exact hFT4)
              rw [← hwx] at m4 B2' hbw'
              have HWX := Lib.hid hwx
              clear hwx m1 m2 m3 hFT4 hcl hrow hB2 hB3 hbw1 hst1 hft f2 hFb q3' q4' q5'
              go_upto_region 20 with fail
              rw [← HWX.out]
              have B2 := B2'
              have B3 := m4
              have hbw := hbw'
              clear x0 x1 x2 x3 v0 v1 v2 v3 y0 y1 y2 y3
              have z0 := B3.c0
              have z1 := B3.c1
              have z2 := B3.c2
              have z3 := B3.c3
              have k1 := B2.set0 (.string (S t.name))
              have k2 := k1.set1 (.slice A t.attrs.length ca)
              have k3 := k2.set2 (.string (S t.text))
              have k4 := k3.set3 (.slice K t.kids.length ck)
              have c0 := B2.c0
              have f0 := B2.fr 0
              have c1 := k1.c1
              have f1 := k1.fr 1
              have c2 := k2.c2
              have f2 := k2.fr 2
              have c3 := k3.c3
              have f3 := k3.fr 3
              have q0 := k4.c0
              have q1 := k4.c1
              have q2 := k4.c2
              have q3 := k4.c3
              have hbb := ((((hbw.setCell (p := ⟨g2, 0, none⟩) hwg2 (.string (S t.name))).setCell (p := ⟨g2, 1, none⟩) hwg2 (.slice A t.attrs.length ca)).setCell (p := ⟨g2, 2, none⟩) hwg2 (.string (S t.text))).setCell (p := ⟨g2, 3, none⟩) hwg2 (.slice K t.kids.length ck))
              have HTR : Hid (FT ((((wx.setCell ⟨g2, 0, none⟩ (.string (S t.name))).setCell ⟨g2, 1, none⟩ (.slice A t.attrs.length ca)).setCell ⟨g2, 2, none⟩ (.string (S t.text))).setCell ⟨g2, 3, none⟩ (.slice K t.kids.length ck)) G (nV t.name A t.attrs.length ca t.text K t.kids.length ck) Ft) := Lib.hid (by rw [HGS.out]; exact FT.keep _ _ _ HFT4.out ((((Same.set (i := 0) n2 (.string (S t.name))).trans (Same.set (i := 1) n2 (.slice A t.attrs.length ca))).trans (Same.set (i := 2) n2 (.string (S t.text)))).trans (Same.set (i := 3) n2 (.slice K t.kids.length ck))))
              have HLO : Hid (∀ b ∈ Ft, w.heap.size ≤ b ∧ b < ((((wx.setCell ⟨g2, 0, none⟩ (.string (S t.name))).setCell ⟨g2, 1, none⟩ (.slice A t.attrs.length ca)).setCell ⟨g2, 2, none⟩ (.string (S t.text))).setCell ⟨g2, 3, none⟩ (.slice K t.kids.length ck)).heap.size) := Lib.hid (fun b hb => ⟨by have := (HFB.out b hb).1; omega, by have := (HFB.out b hb).2; rw [HWX.out]; simpa using this⟩)
              have HBB := Lib.hid hbb
              clear hbb k1 k2 k3 k4 B2 B3 hbw
              go_wp2_with fail
              try rw [Exit.noGoto_ret]
              refine bodyPost_ret (v := .agg #[.string (S t.name), .slice A t.attrs.length ca, .string (S t.text), .slice K t.kids.length ck]) ?_ rfl ⟨_, _, rfl, HTR.out, HLO.out, HBB.out⟩
              · simp [results, Tryd.results13, go_sem, q0, q1, q2, q3]
            | cons p rs =>
              have HGS : Hid (G = Xm.guess f (Xm.addKid p t :: rs) r2) := Lib.hid hgs
              clear hgs
              obtain ⟨nn, hnn⟩ : ∃ nn, nn = (t :: p :: rs).length := ⟨_, rfl⟩
              rw [← hnn]
              have hnr : nn = rs.length + 2 := hnn
              have hlen : nn ≤ 400 := by have := Xm.sizeL_len (t :: p :: rs); omega
              have hl1 : (2 : Int) ≤ (nn : Int) := by omega
              have hl2 : (nn : Int) ≤ 400 := by omega
              have HNN := Lib.hid hnn
              have HNR := Lib.hid hnr
              clear hnn hnr
              go_wp2_with fail
              refine (HCM.out wr hEr).mono ?_
              rintro e w1 ⟨rfl, hbn⟩
              have hst1 := hst.next hbn
              have hB2 := hb2.next hbn
              have hB3 := hb3.next hbn
              have hbw1 := hbel.trans (hbn.mono hbel.size)
              clear hb2 hb3 hbn hbel hst hEr
              go_wp2_with fail
              refine (HP1.out _).mono ?_
              rintro e w' ⟨rfl, rfl⟩
              go_wp2_with fail
              refine (HP2.out _).mono ?_
              rintro e w' ⟨rfl, rfl⟩
              go_upto_region 12 with fail
              obtain ⟨D, hD⟩ : ∃ D, D = rs.length := ⟨_, rfl⟩
              obtain ⟨D1, hD1⟩ : ∃ D1, D1 = rs.length + 1 := ⟨_, rfl⟩
              have hDe : (nn : Int) - 1 = (D1 : Int) := by have := HNR.out; omega
              have hDw : IntKind.i64.wrap ((D1 : Int) - 1) = (D : Int) := by
                have h := hl2
                rw [show (D1 : Int) - 1 = (D : Int) by omega]
                rw [IntKind.wrap_i64]; omega
              have hD0 : (0 : Int) ≤ (D : Int) := by omega
              have hDn : (D : Int) < (nn : Int) := by have := HNR.out; omega
              have hD10 : (0 : Int) ≤ (D1 : Int) := by omega
              have hD1n : (D1 : Int) < (nn : Int) := by have := HNR.out; omega
              rw [hDe]
              have HD := Lib.hid hD
              have HD1 := Lib.hid hD1
              clear hD hD1 hDe
              go_region
              · go_wp2_with fail
                obtain ⟨w2, hw2⟩ : ∃ w2, w2 = (w1.alloc (.cells #[.bool false] 4)).drew := ⟨_, rfl⟩
                rw [← hw2]
                have hnw : Below w1.heap.size w1 w2.drew := by rw [hw2]; exact (((Below.refl _ _).alloc (Nat.le_refl _) _).drew).drew
                clear hw2
                have hst2 := hst1.next hnw
                obtain ⟨gO, va, Fa, A, ca, K, ck, vsp, Gp, tv, Ft, hOe, hgO, hgO2, hvl, hve, hFe, hpA, hpK, hpG, htF, haF⟩ := hst2.top2
                cases hOe
                obtain ⟨tA, tca, tK, tck, _, _, htv, _⟩ := htF.form
                subst htv
                have hB22 := hB2.next hnw
                have hB32 := hB3.next hnw
                have hbw2 := hbw1.trans (hnw.mono hbw1.size)
                have hva4 := FTL.four _ _ _ haF
                have hfl : (va.flatMap cells4).length = D * 4 := by rw [flat4_len va hva4, hvl, HD.out]
                have hrow := hst2.row
                rw [hve] at hrow
                have hcapn := own_cap hrow
                have hat : ∀ (j : Nat) (v : Value), ((va ++ [nV p.name A p.attrs.length ca p.text K p.kids.length ck] ++ [nV t.name tA t.attrs.length tca t.text tK t.kids.length tck]).flatMap cells4)[j]? = some v → w2.drew.cell? ⟨gO, j, none⟩ = some v := fun j v h => by
                  have := World.ownsRow.cells hrow (g := gO) rfl j v h
                  rwa [Addr.add_mid, Nat.zero_add] at this
                have hflat : (va ++ [nV p.name A p.attrs.length ca p.text K p.kids.length ck] ++ [nV t.name tA t.attrs.length tca t.text tK t.kids.length tck]).flatMap cells4 = va.flatMap cells4 ++ [.string (S p.name), .slice A p.attrs.length ca, .string (S p.text), .slice K p.kids.length ck, .string (S t.name), .slice tA t.attrs.length tca, .string (S t.text), .slice tK t.kids.length tck] := by
                  rw [List.flatMap_append, List.flatMap_append, List.append_assoc]
                  rfl
                rw [hflat] at hat
                have hat2 : ∀ (j : Nat) (v : Value), [Value.string (S p.name), .slice A p.attrs.length ca, .string (S p.text), .slice K p.kids.length ck, .string (S t.name), .slice tA t.attrs.length tca, .string (S t.text), .slice tK t.kids.length tck][j]? = some v → w2.drew.cell? ⟨gO, D * 4 + j, none⟩ = some v := fun j v h => hat (D * 4 + j) v (by
                  rw [List.getElem?_append_right (by omega), hfl, show D * 4 + j - D * 4 = j by omega]; exact h)
                have y3 := hat2 3 _ rfl
                have hDD : D1 * 4 = D * 4 + 4 := by rw [HD1.out, HD.out]; omega
                have x0 : w2.drew.cell? ⟨gO, D1 * 4, none⟩ = some (.string (S t.name)) := by rw [hDD]; exact hat2 4 _ rfl
                have x1 : w2.drew.cell? ⟨gO, D1 * 4 + 1, none⟩ = some (.slice tA t.attrs.length tca) := by rw [hDD]; exact hat2 5 _ rfl
                have x2 : w2.drew.cell? ⟨gO, D1 * 4 + 2, none⟩ = some (.string (S t.text)) := by rw [hDD]; exact hat2 6 _ rfl
                have x3 : w2.drew.cell? ⟨gO, D1 * 4 + 3, none⟩ = some (.slice tK t.kids.length tck) := by rw [hDD]; exact hat2 7 _ rfl
                have hgO3 : gO < w2.drew.heap.size := hgO2
                obtain ⟨wa, hwa⟩ : ∃ wa, wa = w2.drew.alloc (.cells #[.string (S t.name), .slice tA t.attrs.length tca, .string (S t.text), .slice tK t.kids.length tck] 26) := ⟨_, rfl⟩
                have hba : Below w2.drew.heap.size w2.drew wa := by rw [hwa]; exact (Below.refl _ _).alloc (Nat.le_refl _) _
                have y3' : (w2.drew.alloc (.cells #[.string (S t.name), .slice tA t.attrs.length tca, .string (S t.text), .slice tK t.kids.length tck] 26)).cell? ⟨gO, D * 4 + 3, none⟩ = some (.slice K p.kids.length ck) := (World.cell?_of_block (Below.heap_alloc _ _ _ hgO3)).trans y3
                have x0' : (w2.drew.alloc (.cells #[.string (S t.name), .slice tA t.attrs.length tca, .string (S t.text), .slice tK t.kids.length tck] 26)).cell? ⟨gO, D1 * 4, none⟩ = some (.string (S t.name)) := (World.cell?_of_block (Below.heap_alloc _ _ _ hgO3)).trans x0
                have x1' : (w2.drew.alloc (.cells #[.string (S t.name), .slice tA t.attrs.length tca, .string (S t.text), .slice tK t.kids.length tck] 26)).cell? ⟨gO, D1 * 4 + 1, none⟩ = some (.slice tA t.attrs.length tca) := (World.cell?_of_block (Below.heap_alloc _ _ _ hgO3)).trans x1
                have x2' : (w2.drew.alloc (.cells #[.string (S t.name), .slice tA t.attrs.length tca, .string (S t.text), .slice tK t.kids.length tck] 26)).cell? ⟨gO, D1 * 4 + 2, none⟩ = some (.string (S t.text)) := (World.cell?_of_block (Below.heap_alloc _ _ _ hgO3)).trans x2
                have x3' : (w2.drew.alloc (.cells #[.string (S t.name), .slice tA t.attrs.length tca, .string (S t.text), .slice tK t.kids.length tck] 26)).cell? ⟨gO, D1 * 4 + 3, none⟩ = some (.slice tK t.kids.length tck) := (World.cell?_of_block (Below.heap_alloc _ _ _ hgO3)).trans x3
                have y3'' : (w2.alloc (.cells #[.string (S t.name), .slice tA t.attrs.length tca, .string (S t.text), .slice tK t.kids.length tck] 26)).drew.cell? ⟨gO, D * 4 + 3, none⟩ = some (.slice K p.kids.length ck) := y3'
                have hst3 := hst2.next hba
                have hB23 := hB22.next hba
                have hB33 := hB32.next hba
                have hbw3 := hbw2.trans (hba.mono hbw2.size)
                have hpK3 := own_below hpK hba
                have hG3 := FTL.keep _ _ _ hpG (Same.below hba (fun b hb => (hst2.lo b (by rw [hFe]; simp [hb])).2))
                have hF3 := FT.keep _ _ _ htF (Same.below hba (fun b hb => (hst2.lo b (by rw [hFe]; simp [hb])).2))
                have ha3 := FTL.keep _ _ _ haF (Same.below hba (fun b hb => (hst2.lo b (by rw [hFe]; simp [hb])).2))
                have hA3 := pcells_same hpA (Same.below hba (fun b hb => (hst2.lo b (by rw [hFe]; simp [hb])).2))
                have hrow3 := own_below hrow hba
                have hsz3 := hba.size
                have hgO4 : gO < (w2.drew.alloc (.cells #[.string (S t.name), .slice tA t.attrs.length tca, .string (S t.text), .slice tK t.kids.length tck] 26)).heap.size := Nat.lt_of_lt_of_le hgO3 (by rw [← hwa]; exact hsz3)
                have yf3 : w2.drew.frozen? ⟨gO, D * 4 + 3, none⟩ = false := World.ownsRow.frozenAt hst2.row _
                have yf3' : (w2.drew.alloc (.cells #[.string (S t.name), .slice tA t.attrs.length tca, .string (S t.text), .slice tK t.kids.length tck] 26)).frozen? ⟨gO, D * 4 + 3, none⟩ = false := (World.frozen?_of_block (Below.heap_alloc _ _ _ hgO3)).trans yf3
                have hKb : (Value.slice K p.kids.length ck).ownBlock ≠ some gO := fun e => by
                  have hnd := hst2.nd
                  rw [hFe] at hnd
                  cases K with
                  | none => simp [Value.ownBlock] at e
                  | some a =>
                    simp only [Value.ownBlock, Option.some.injEq] at e
                    have := List.nodup_append.1 hnd
                    exact this.2.2 gO (by simp [blkOf]) gO (by simp [blkOf, e]) rfl
                have hKg : ∀ b, (Value.slice K p.kids.length ck).ownBlock = some b → g3 < b := fun b e => by
                  cases K with
                  | none => simp [Value.ownBlock] at e
                  | some a =>
                    simp only [Value.ownBlock, Option.some.injEq] at e
                    exact (hst2.lo b (by rw [hFe]; simp [blkOf, e])).1
                have hklen : p.kids.length ≤ 400 := by
                  have h1 := Xm.kids_size p
                  have h2 : Xm.size t + (Xm.size p + Xm.sizeL rs) ≤ k := hsz
                  omega
                have hK63 : p.kids.length + 1 ≤ maxLen := by unfold maxLen; omega
                have hcapI : (D1 : Int) ≤ (cap : Int) := by have h1 := hcapn.1; rw [← HNN.out] at h1; have := hD1n; omega
                have hrK := World.ownsRow.lt hpK3
                rw [hwa] at hpK3
                have HWA := Lib.hid hwa
                have HST3 := Lib.hid hst3
                have HB23 := Lib.hid hB23
                have HB33 := Lib.hid hB33
                have HBW3 := Lib.hid hbw3
                have HG3 := Lib.hid hG3
                have HF3 := Lib.hid hF3
                have HA3 := Lib.hid ha3
                have HPA3 := Lib.hid hA3
                have HROW3 := Lib.hid hrow3
                clear hst3 hB23 hB33 hbw3 hG3 hF3 ha3 hA3 hrow3 hwa hba hpG htF haF hpA hpK hrow hat hat2 hB22 hB32 hbw2 hst2 hnw hB2 hB3 hbw1 hst1 hflat hve hDD hcapn
                go_region_law (refine step_append_lies _ rfl (.tmp 66) (.tmp 71) _ rfl 0 26 i0 _ 4 80 Tryd.underlying24 hi0 hz0 hz1 hz2 rfl (by omega) _ p.kids.length (vsp.flatMap cells4) rfl hpK3 ⟨w2.drew.heap.size, 0, none⟩ 1 1 [.string (S t.name), .slice tA t.attrs.length tca, .string (S t.text), .slice tK t.kids.length tck] rfl rfl (World.news_of_block (cs := #[.string (S t.name), .slice tA t.attrs.length tca, .string (S t.text), .slice tK t.kids.length tck]) (t := 26) (fr := (0, 0)) (heap_alloc_new w2.drew _)) (by simp [Value.oneCell']) (by omega) hK63 (by omega) (Nat.zero_le _) (w2.drew.heap.size + 1) (by simp) ?_; intro gg cap2 wk hown10 hgrow hatk hlt10; have u3 := (hgrow.cell_far ⟨gO, D * 4 + 3, none⟩ hgO4 (fun e => hKb e.symm)).trans y3'; have uf3 := (World.grownBy.frozen_far hgrow ⟨gO, D * 4 + 3, none⟩ hgO4 (fun e => hKb e.symm)).trans yf3')
                all_goals
                  go_wp2_with fail
                  go_roundw
                  case rel =>
                    have hgr : wa.grownBy wk (Value.slice K p.kids.length ck).ownBlock := by rw [HWA.out]; exact hgrow
                    have hak : (Value.slice K p.kids.length ck).ownBlock = some gg ∨ gg = w2.drew.heap.size + 1 := hatk
                    have hwas : wa.heap.size = w2.drew.heap.size + 1 := by rw [HWA.out]; simp
                    have hggO : gg ≠ gO := by
                      rcases hak with e | e
                      · exact fun h => hKb (h ▸ e)
                      · omega
                    have hrk := World.ownsRow.kept HROW3.out hgr (.inr (fun e => hKb e.symm))
                    have hstd := (World.ownsRow.stored hrk (D * 4 + 3) (.slice (some ⟨gg, 0, none⟩) (p.kids.length + 1) cap2)).1
                    rw [List.flatMap_append, show [nV t.name tA t.attrs.length tca t.text tK t.kids.length tck].flatMap cells4 = cells4 (nV t.name tA t.attrs.length tca t.text tK t.kids.length tck) by simp] at hstd
                    have hset := set_flat va hva4 (.string (S p.name)) (.slice A p.attrs.length ca) (.string (S p.text)) (.slice K p.kids.length ck) (.slice (some ⟨gg, 0, none⟩) (p.kids.length + 1) cap2) (cells4 (nV t.name tA t.attrs.length tca t.text tK t.kids.length tck)) (D * 4 + 3) (by rw [hvl, HD.out])
                    have hset' : ((va ++ [nV p.name A p.attrs.length ca p.text K p.kids.length ck]).flatMap cells4 ++ cells4 (nV t.name tA t.attrs.length tca t.text tK t.kids.length tck)).set (D * 4 + 3) (.slice (some ⟨gg, 0, none⟩) (p.kids.length + 1) cap2) = _ := hset
                    rw [hset'] at hstd
                    have hatt := HST3.out.attach hFe hvl HPA3.out HG3.out HF3.out HA3.out (gk := gg) (ck' := cap2) (wf := wk.setCell ⟨gO, D * 4 + 3, none⟩ (.slice (some ⟨gg, 0, none⟩) (p.kids.length + 1) cap2)) (hak.imp id (fun e => by omega)) (by simpa using hlt10)
                      (own_set_ne hown10 (fun e => hggO (by simpa [Value.ownBlock] using e)) _)
                      (fun b hb hne hK => (Below.heap_setCell wk ⟨gO, D * 4 + 3, none⟩ _ b hne).trans (hgr.block b hb (fun e => hK e.symm))) (by simpa using hgr.size) hstd
                    refine ⟨k + 1, r2, Xm.addKid p t :: rs, some ⟨gO, 0, none⟩, cap, _, _, by omega, by go_num, rfl, hr16, by rw [HD1.out]; rfl, by rw [HGS.out, hf2], ?_, hatt, ?_, ?_, ?_⟩
                    · show Xm.size (Xm.addKid p t) + Xm.sizeL rs ≤ k + 1
                      rw [Xm.size_addKid]
                      have : Xm.size t + (Xm.size p + Xm.sizeL rs) ≤ k := hsz
                      omega
                    · exact (HB23.out.grown hgr (fun e => by have := hKg g2 e; omega)).far (by omega) _
                    · exact (HB33.out.grown hgr (fun e => by have := hKg g3 e; omega)).far (by omega) _
                    · exact (HBW3.out.grown hgr HBW3.out.size (fun b e => by have := hKg b e; omega)).setCell (p := ⟨gO, D * 4 + 3, none⟩) (by show w.heap.size ≤ gO; omega) _
                  case measure => simp [intOf]; omega
              · go_wp2_with fail
                obtain ⟨w2, hw2⟩ : ∃ w2, w2 = (w1.alloc (.cells #[.bool true] 4)).drew := ⟨_, rfl⟩
                rw [← hw2]
                have hnw : Below w1.heap.size w1 w2.drew := by rw [hw2]; exact (((Below.refl _ _).alloc (Nat.le_refl _) _).drew).drew
                clear hw2
                have hst2 := hst1.next hnw
                obtain ⟨gO, va, Fa, A, ca, K, ck, vsp, Gp, tv, Ft, hOe, hgO, hgO2, hvl, hve, hFe, hpA, hpK, hpG, htF, haF⟩ := hst2.top2
                cases hOe
                obtain ⟨tA, tca, tK, tck, _, _, htv, _⟩ := htF.form
                subst htv
                have hB22 := hB2.next hnw
                have hB32 := hB3.next hnw
                have hbw2 := hbw1.trans (hnw.mono hbw1.size)
                have hva4 := FTL.four _ _ _ haF
                have hfl : (va.flatMap cells4).length = D * 4 := by rw [flat4_len va hva4, hvl, HD.out]
                have hrow := hst2.row
                rw [hve] at hrow
                have hcapn := own_cap hrow
                have hat : ∀ (j : Nat) (v : Value), ((va ++ [nV p.name A p.attrs.length ca p.text K p.kids.length ck] ++ [nV t.name tA t.attrs.length tca t.text tK t.kids.length tck]).flatMap cells4)[j]? = some v → w2.drew.cell? ⟨gO, j, none⟩ = some v := fun j v h => by
                  have := World.ownsRow.cells hrow (g := gO) rfl j v h
                  rwa [Addr.add_mid, Nat.zero_add] at this
                have hflat : (va ++ [nV p.name A p.attrs.length ca p.text K p.kids.length ck] ++ [nV t.name tA t.attrs.length tca t.text tK t.kids.length tck]).flatMap cells4 = va.flatMap cells4 ++ [.string (S p.name), .slice A p.attrs.length ca, .string (S p.text), .slice K p.kids.length ck, .string (S t.name), .slice tA t.attrs.length tca, .string (S t.text), .slice tK t.kids.length tck] := by
                  rw [List.flatMap_append, List.flatMap_append, List.append_assoc]
                  rfl
                rw [hflat] at hat
                have hat2 : ∀ (j : Nat) (v : Value), [Value.string (S p.name), .slice A p.attrs.length ca, .string (S p.text), .slice K p.kids.length ck, .string (S t.name), .slice tA t.attrs.length tca, .string (S t.text), .slice tK t.kids.length tck][j]? = some v → w2.drew.cell? ⟨gO, D * 4 + j, none⟩ = some v := fun j v h => hat (D * 4 + j) v (by
                  rw [List.getElem?_append_right (by omega), hfl, show D * 4 + j - D * 4 = j by omega]; exact h)
                have y3 := hat2 3 _ rfl
                have hDD : D1 * 4 = D * 4 + 4 := by rw [HD1.out, HD.out]; omega
                have x0 : w2.drew.cell? ⟨gO, D1 * 4, none⟩ = some (.string (S t.name)) := by rw [hDD]; exact hat2 4 _ rfl
                have x1 : w2.drew.cell? ⟨gO, D1 * 4 + 1, none⟩ = some (.slice tA t.attrs.length tca) := by rw [hDD]; exact hat2 5 _ rfl
                have x2 : w2.drew.cell? ⟨gO, D1 * 4 + 2, none⟩ = some (.string (S t.text)) := by rw [hDD]; exact hat2 6 _ rfl
                have x3 : w2.drew.cell? ⟨gO, D1 * 4 + 3, none⟩ = some (.slice tK t.kids.length tck) := by rw [hDD]; exact hat2 7 _ rfl
                have hgO3 : gO < w2.drew.heap.size := hgO2
                obtain ⟨wa, hwa⟩ : ∃ wa, wa = w2.drew.alloc (.cells #[.string ⟨#[]⟩, .slice none 0 0, .string ⟨#[]⟩, .slice none 0 0] 26) := ⟨_, rfl⟩
                have hba : Below w2.drew.heap.size w2.drew wa := by rw [hwa]; exact (Below.refl _ _).alloc (Nat.le_refl _) _
                have y3' : (w2.drew.alloc (.cells #[.string ⟨#[]⟩, .slice none 0 0, .string ⟨#[]⟩, .slice none 0 0] 26)).cell? ⟨gO, D * 4 + 3, none⟩ = some (.slice K p.kids.length ck) := (World.cell?_of_block (Below.heap_alloc _ _ _ hgO3)).trans y3
                have x0' : (w2.drew.alloc (.cells #[.string ⟨#[]⟩, .slice none 0 0, .string ⟨#[]⟩, .slice none 0 0] 26)).cell? ⟨gO, D1 * 4, none⟩ = some (.string (S t.name)) := (World.cell?_of_block (Below.heap_alloc _ _ _ hgO3)).trans x0
                have x1' : (w2.drew.alloc (.cells #[.string ⟨#[]⟩, .slice none 0 0, .string ⟨#[]⟩, .slice none 0 0] 26)).cell? ⟨gO, D1 * 4 + 1, none⟩ = some (.slice tA t.attrs.length tca) := (World.cell?_of_block (Below.heap_alloc _ _ _ hgO3)).trans x1
                have x2' : (w2.drew.alloc (.cells #[.string ⟨#[]⟩, .slice none 0 0, .string ⟨#[]⟩, .slice none 0 0] 26)).cell? ⟨gO, D1 * 4 + 2, none⟩ = some (.string (S t.text)) := (World.cell?_of_block (Below.heap_alloc _ _ _ hgO3)).trans x2
                have x3' : (w2.drew.alloc (.cells #[.string ⟨#[]⟩, .slice none 0 0, .string ⟨#[]⟩, .slice none 0 0] 26)).cell? ⟨gO, D1 * 4 + 3, none⟩ = some (.slice tK t.kids.length tck) := (World.cell?_of_block (Below.heap_alloc _ _ _ hgO3)).trans x3
                have y3'' : (w2.alloc (.cells #[.string ⟨#[]⟩, .slice none 0 0, .string ⟨#[]⟩, .slice none 0 0] 26)).drew.cell? ⟨gO, D * 4 + 3, none⟩ = some (.slice K p.kids.length ck) := y3'
                have x0'' : (w2.alloc (.cells #[.string ⟨#[]⟩, .slice none 0 0, .string ⟨#[]⟩, .slice none 0 0] 26)).drew.cell? ⟨gO, D1 * 4, none⟩ = some (.string (S t.name)) := x0'
                have x1'' : (w2.alloc (.cells #[.string ⟨#[]⟩, .slice none 0 0, .string ⟨#[]⟩, .slice none 0 0] 26)).drew.cell? ⟨gO, D1 * 4 + 1, none⟩ = some (.slice tA t.attrs.length tca) := x1'
                have x2'' : (w2.alloc (.cells #[.string ⟨#[]⟩, .slice none 0 0, .string ⟨#[]⟩, .slice none 0 0] 26)).drew.cell? ⟨gO, D1 * 4 + 2, none⟩ = some (.string (S t.text)) := x2'
                have x3'' : (w2.alloc (.cells #[.string ⟨#[]⟩, .slice none 0 0, .string ⟨#[]⟩, .slice none 0 0] 26)).drew.cell? ⟨gO, D1 * 4 + 3, none⟩ = some (.slice tK t.kids.length tck) := x3'
                have hvl4 : (vsp.flatMap cells4).length = p.kids.length * 4 := by rw [flat4_len vsp (FTL.four _ _ _ hpG), FTL.length _ _ _ hpG]
                have hst3 := hst2.next hba
                have hB23 := hB22.next hba
                have hB33 := hB32.next hba
                have hbw3 := hbw2.trans (hba.mono hbw2.size)
                have hpK3 := own_below hpK hba
                have hG3 := FTL.keep _ _ _ hpG (Same.below hba (fun b hb => (hst2.lo b (by rw [hFe]; simp [hb])).2))
                have hF3 := FT.keep _ _ _ htF (Same.below hba (fun b hb => (hst2.lo b (by rw [hFe]; simp [hb])).2))
                have ha3 := FTL.keep _ _ _ haF (Same.below hba (fun b hb => (hst2.lo b (by rw [hFe]; simp [hb])).2))
                have hA3 := pcells_same hpA (Same.below hba (fun b hb => (hst2.lo b (by rw [hFe]; simp [hb])).2))
                have hrow3 := own_below hrow hba
                have hsz3 := hba.size
                have hgO4 : gO < (w2.drew.alloc (.cells #[.string ⟨#[]⟩, .slice none 0 0, .string ⟨#[]⟩, .slice none 0 0] 26)).heap.size := Nat.lt_of_lt_of_le hgO3 (by rw [← hwa]; exact hsz3)
                have yf3 : w2.drew.frozen? ⟨gO, D * 4 + 3, none⟩ = false := World.ownsRow.frozenAt hst2.row _
                have yf3' : (w2.drew.alloc (.cells #[.string ⟨#[]⟩, .slice none 0 0, .string ⟨#[]⟩, .slice none 0 0] 26)).frozen? ⟨gO, D * 4 + 3, none⟩ = false := (World.frozen?_of_block (Below.heap_alloc _ _ _ hgO3)).trans yf3
                have hKb : (Value.slice K p.kids.length ck).ownBlock ≠ some gO := fun e => by
                  have hnd := hst2.nd
                  rw [hFe] at hnd
                  cases K with
                  | none => simp [Value.ownBlock] at e
                  | some a =>
                    simp only [Value.ownBlock, Option.some.injEq] at e
                    have := List.nodup_append.1 hnd
                    exact this.2.2 gO (by simp [blkOf]) gO (by simp [blkOf, e]) rfl
                have hKg : ∀ b, (Value.slice K p.kids.length ck).ownBlock = some b → g3 < b := fun b e => by
                  cases K with
                  | none => simp [Value.ownBlock] at e
                  | some a =>
                    simp only [Value.ownBlock, Option.some.injEq] at e
                    exact (hst2.lo b (by rw [hFe]; simp [blkOf, e])).1
                have hklen : p.kids.length ≤ 400 := by
                  have h1 := Xm.kids_size p
                  have h2 : Xm.size t + (Xm.size p + Xm.sizeL rs) ≤ k := hsz
                  omega
                have hK63 : p.kids.length + 1 ≤ maxLen := by unfold maxLen; omega
                have hcapI : (D1 : Int) ≤ (cap : Int) := by have h1 := hcapn.1; rw [← HNN.out] at h1; have := hD1n; omega
                have hrK := World.ownsRow.lt hpK3
                rw [hwa] at hpK3
                have HWA := Lib.hid hwa
                have HST3 := Lib.hid hst3
                have HB23 := Lib.hid hB23
                have HB33 := Lib.hid hB33
                have HBW3 := Lib.hid hbw3
                have HG3 := Lib.hid hG3
                have HF3 := Lib.hid hF3
                have HA3 := Lib.hid ha3
                have HPA3 := Lib.hid hA3
                have HROW3 := Lib.hid hrow3
                clear hst3 hB23 hB33 hbw3 hG3 hF3 ha3 hA3 hrow3 hwa hba hpG htF haF hpA hpK hrow hat hat2 hB22 hB32 hbw2 hst2 hnw hB2 hB3 hbw1 hst1 hflat hve hDD hcapn
                go_region_law (refine step_append_lies _ rfl (.tmp 47) (.tmp 53) _ rfl 0 26 i0 _ 4 80 Tryd.underlying24 hi0 hz0 hz1 hz2 rfl (by omega) _ p.kids.length (vsp.flatMap cells4) rfl hpK3 ⟨w2.drew.heap.size, 0, none⟩ 1 1 [.string ⟨#[]⟩, .slice none 0 0, .string ⟨#[]⟩, .slice none 0 0] rfl rfl (World.news_of_block (cs := #[.string ⟨#[]⟩, .slice none 0 0, .string ⟨#[]⟩, .slice none 0 0]) (t := 26) (fr := (0, 0)) (heap_alloc_new w2.drew _)) (by simp [Value.oneCell']) (by omega) hK63 (by omega) (Nat.zero_le _) (w2.drew.heap.size + 1) (by simp) ?_; intro gg cap2 wk hown10 hgrow hatk hlt10; have u3 := (hgrow.cell_far ⟨gO, D * 4 + 3, none⟩ hgO4 (fun e => hKb e.symm)).trans y3'; have uf3 := (World.grownBy.frozen_far hgrow ⟨gO, D * 4 + 3, none⟩ hgO4 (fun e => hKb e.symm)).trans yf3'; have hggO : gg ≠ gO := (fun h => by have hak : (Value.slice K p.kids.length ck).ownBlock = some gg ∨ gg = w2.drew.heap.size + 1 := hatk; rcases hak with e | e; exact hKb (h ▸ e); omega); have hp4 := own_put4 hvl4 (own_set_ne (i := D * 4 + 3) hown10 (fun e => hggO (by simpa [Value.ownBlock] using e)) (.slice (some ⟨gg, 0, none⟩) (p.kids.length + 1) cap2)) (.string (S t.name)) (.slice tA t.attrs.length tca) (.string (S t.text)) (.slice tK t.kids.length tck); have e0 := hp4.1; have e1 := hp4.2.1; have e2 := hp4.2.2.1; have e3 := hp4.2.2.2.1; have e4 := hp4.2.2.2.2.1; have e5 := hp4.2.2.2.2.2.1; have e6 := hp4.2.2.2.2.2.2.1; have e7 := hp4.2.2.2.2.2.2.2.1; have HP4 := Lib.hid hp4.2.2.2.2.2.2.2.2; clear hp4)
                all_goals
                  go_wp2_with fail
                  go_roundw
                  case rel =>
                    have hgr : wa.grownBy wk (Value.slice K p.kids.length ck).ownBlock := by rw [HWA.out]; exact hgrow
                    have hak : (Value.slice K p.kids.length ck).ownBlock = some gg ∨ gg = w2.drew.heap.size + 1 := hatk
                    have hwas : wa.heap.size = w2.drew.heap.size + 1 := by rw [HWA.out]; simp
                    have hggO : gg ≠ gO := by
                      rcases hak with e | e
                      · exact fun h => hKb (h ▸ e)
                      · omega
                    have hrk := World.ownsRow.kept HROW3.out hgr (.inr (fun e => hKb e.symm))
                    have hstd := (World.ownsRow.stored hrk (D * 4 + 3) (.slice (some ⟨gg, 0, none⟩) (p.kids.length + 1) cap2)).1
                    rw [List.flatMap_append, show [nV t.name tA t.attrs.length tca t.text tK t.kids.length tck].flatMap cells4 = cells4 (nV t.name tA t.attrs.length tca t.text tK t.kids.length tck) by simp] at hstd
                    have hset := set_flat va hva4 (.string (S p.name)) (.slice A p.attrs.length ca) (.string (S p.text)) (.slice K p.kids.length ck) (.slice (some ⟨gg, 0, none⟩) (p.kids.length + 1) cap2) (cells4 (nV t.name tA t.attrs.length tca t.text tK t.kids.length tck)) (D * 4 + 3) (by rw [hvl, HD.out])
                    have hset' : ((va ++ [nV p.name A p.attrs.length ca p.text K p.kids.length ck]).flatMap cells4 ++ cells4 (nV t.name tA t.attrs.length tca t.text tK t.kids.length tck)).set (D * 4 + 3) (.slice (some ⟨gg, 0, none⟩) (p.kids.length + 1) cap2) = _ := hset
                    rw [hset'] at hstd
                    have hOg : (Value.slice (some (⟨gO, 0, none⟩ : Addr)) (rs.length + 1 + 1) cap).ownBlock ≠ some gg := fun e => hggO (by simpa [Value.ownBlock] using e.symm)
                    have hgg3 : g3 < gg := by
                      rcases hak with e | e
                      · exact hKg _ e
                      · omega
                    have hatt := HST3.out.attach hFe hvl HPA3.out HG3.out HF3.out HA3.out (gk := gg) (ck' := cap2) (wf := ((((wk.setCell ⟨gO, D * 4 + 3, none⟩ (.slice (some ⟨gg, 0, none⟩) (p.kids.length + 1) cap2)).setCell ⟨gg, p.kids.length * 4, none⟩ (.string (S t.name))).setCell ⟨gg, p.kids.length * 4 + 1, none⟩ (.slice tA t.attrs.length tca)).setCell ⟨gg, p.kids.length * 4 + 2, none⟩ (.string (S t.text))).setCell ⟨gg, p.kids.length * 4 + 3, none⟩ (.slice tK t.kids.length tck)) (hak.imp id (fun e => by omega)) (by simpa using hlt10)
                      HP4.out
                      (fun b hb hne hK => by
                        have hbg : b ≠ gg := by
                          rcases hak with e | e
                          · exact fun h => hK (h ▸ e)
                          · omega
                        exact (Below.heap_setCell _ ⟨gg, p.kids.length * 4 + 3, none⟩ _ b hbg).trans ((Below.heap_setCell _ ⟨gg, p.kids.length * 4 + 2, none⟩ _ b hbg).trans ((Below.heap_setCell _ ⟨gg, p.kids.length * 4 + 1, none⟩ _ b hbg).trans ((Below.heap_setCell _ ⟨gg, p.kids.length * 4, none⟩ _ b hbg).trans ((Below.heap_setCell wk ⟨gO, D * 4 + 3, none⟩ _ b hne).trans (hgr.block b hb (fun e => hK e.symm))))))) (by simpa using hgr.size) (own_set_ne (own_set_ne (own_set_ne (own_set_ne hstd hOg _) hOg _) hOg _) hOg _)
                    refine ⟨k + 1, r2, Xm.addKid p t :: rs, some ⟨gO, 0, none⟩, cap, _, _, by omega, by go_num, rfl, hr16, by rw [HD1.out]; rfl, by rw [HGS.out, hf2], ?_, hatt, ?_, ?_, ?_⟩
                    · show Xm.size (Xm.addKid p t) + Xm.sizeL rs ≤ k + 1
                      rw [Xm.size_addKid]
                      have : Xm.size t + (Xm.size p + Xm.sizeL rs) ≤ k := hsz
                      omega
                    · exact (((((HB23.out.grown hgr (fun e => by have := hKg g2 e; omega)).far (by omega) _).far (by omega) _).far (by omega) _).far (by omega) _).far (by omega) _
                    · exact (((((HB33.out.grown hgr (fun e => by have := hKg g3 e; omega)).far (by omega) _).far (by omega) _).far (by omega) _).far (by omega) _).far (by omega) _
                    · exact ((((((HBW3.out.grown hgr HBW3.out.size (fun b e => by have := hKg b e; omega)).setCell (p := ⟨gO, D * 4 + 3, none⟩) (by show w.heap.size ≤ gO; omega) _).setCell (p := ⟨gg, p.kids.length * 4 , none⟩) (by show w.heap.size ≤ gg; omega) _).setCell (p := ⟨gg, p.kids.length * 4 + 1, none⟩) (by show w.heap.size ≤ gg; omega) _).setCell (p := ⟨gg, p.kids.length * 4 + 2, none⟩) (by show w.heap.size ≤ gg; omega) _).setCell (p := ⟨gg, p.kids.length * 4 + 3, none⟩) (by show w.heap.size ≤ gg; omega) _)
                  case measure => simp [intOf]; omega
    · have hk5 : k = 400 := by omega
      have HG : Hid (G = Xm.zero) := Lib.hid (by rw [hgs, hk5]; rfl)
      have hk1 : ¬ (k : Int) < 400 := by omega
      have B2 := hb2
      have B3 := hb3
      have hbw := hbel
      clear hgs hsz hst hk5 hb2 hb3 hbel
      have z0 := B3.c0
      have z1 := B3.c1
      have z2 := B3.c2
      have z3 := B3.c3
      have k1 := B2.set0 (.string ⟨#[]⟩)
      have k2 := k1.set1 (.slice none 0 0)
      have k3 := k2.set2 (.string ⟨#[]⟩)
      have k4 := k3.set3 (.slice none 0 0)
      have c0 := B2.c0
      have f0 := B2.fr 0
      have c1 := k1.c1
      have f1 := k1.fr 1
      have c2 := k2.c2
      have f2 := k2.fr 2
      have c3 := k3.c3
      have f3 := k3.fr 3
      have q0 := k4.c0
      have q1 := k4.c1
      have q2 := k4.c2
      have q3 := k4.c3
      have hbb := ((((hbw.setCell (p := ⟨g2, 0, none⟩) hwg2 (.string ⟨#[]⟩)).setCell (p := ⟨g2, 1, none⟩) hwg2 (.slice none 0 0)).setCell (p := ⟨g2, 2, none⟩) hwg2 (.string ⟨#[]⟩)).setCell (p := ⟨g2, 3, none⟩) hwg2 (.slice none 0 0))
      have HTR : Hid (FT ((((wr.setCell ⟨g2, 0, none⟩ (.string ⟨#[]⟩)).setCell ⟨g2, 1, none⟩ (.slice none 0 0)).setCell ⟨g2, 2, none⟩ (.string ⟨#[]⟩)).setCell ⟨g2, 3, none⟩ (.slice none 0 0)) G (.agg #[.string ⟨#[]⟩, .slice none 0 0, .string ⟨#[]⟩, .slice none 0 0]) []) := Lib.hid (by rw [HG.out]; exact ft_zero _)
      have HLO : Hid (∀ b ∈ ([] : List Nat), w.heap.size ≤ b ∧ b < ((((wr.setCell ⟨g2, 0, none⟩ (.string ⟨#[]⟩)).setCell ⟨g2, 1, none⟩ (.slice none 0 0)).setCell ⟨g2, 2, none⟩ (.string ⟨#[]⟩)).setCell ⟨g2, 3, none⟩ (.slice none 0 0)).heap.size) := Lib.hid (fun b hb => absurd hb (by simp))
      have HBB := Lib.hid hbb
      clear hbb k1 k2 k3 k4 B2 B3 hbw
      go_wp2_with fail
      try rw [Exit.noGoto_ret]
      refine bodyPost_ret (v := .agg #[.string ⟨#[]⟩, .slice none 0 0, .string ⟨#[]⟩, .slice none 0 0]) ?_ rfl ⟨_, _, rfl, HTR.out, HLO.out, HBB.out⟩
      · simp [results, Tryd.results13, go_sem, q0, q1, q2, q3]
end Go.Proofs.YtpleaopefngafaaDoor
