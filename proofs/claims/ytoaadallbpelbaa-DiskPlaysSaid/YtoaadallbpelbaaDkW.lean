/- What the call Write of package disk does, for any disk that stages at most 1048575 blocks, and any bytes. -/
import Derived.Test.YtoaadallbpelbaaDkL
namespace Go.Proofs.Ytoaadallbpelbaa
set_option maxRecDepth 8000
open Go.RowKit

/-- Bytes that came in (at most so many as Go allows). -/
def BIn (w : World) (A : Option Addr) (l : List UInt8) : Prop := 0 < l.length → ∃ b off, A = some ⟨b, off, none⟩ ∧ b < w.heap.size ∧ ∀ k (h : k < l.length), w.cell? ⟨b, off + k, none⟩ = some (B l[k])
def ErrPost (w : World) (a : Mm) (x : Int) (d' : Dk.D) (e : Ending) (w' : World) : Prop := e = .returned (.int .i64 x) ∧ Step w a d' w'

set_option maxHeartbeats 1600000 in
theorem write_any (w : World) (a : Mm) (d : Dk.D) (i : Int) (A : Option Addr) (cap : Nat) (l : List UInt8) (h : DAt w a d) (ht : There w a) (hst : d.st.length ≤ 1048575) (hl : l.length ≤ 9223372036854775807) (hA : BIn w A l) (hF : 0 < l.length → ∀ ad, A = some ad → ad.block ∉ a.F) :
    Calls Try.prog 33 #[.pointer (some ⟨a.P, 0, none⟩), .int .i64 i, .slice A l.length cap] w (ErrPost w a (d.writeE i l) (d.write i l)) := by
  obtain ⟨i0, hi0, hz0, hz1, hz2⟩ := info_parts Try.infoStaged
  have HH := has_any w a d i h
  have HFA := fails_any w a d h ht
  by_cases hi : i < 0 ∨ (d.n : Int) ≤ i
  · have e1 : hasB d.n i = false := by unfold hasB; simp; omega
    rw [e1] at HH
    have HE : Hid (ErrPost w a (d.writeE i l) (d.write i l) (.returned (.int .i64 4)) w) := Lib.hid (by
      unfold Dk.D.writeE Dk.D.write
      rw [if_pos hi, if_pos hi]
      exact ⟨rfl, Step.quiet h ht (Below.refl _ _)⟩)
    clear hi e1 HFA
    go_enter Try.func33, Try.ntmps33
    go_wp2_with fail
    refine HH.mono ?_
    rintro e w' ⟨rfl, rfl⟩
    go_wp2
    go_ret
    exact HE.out
  · have e1 : hasB d.n i = true := by unfold hasB; simp; omega
    rw [e1] at HH
    by_cases hlen : 32 < l.length
    · have HE : Hid (ErrPost w a (d.writeE i l) (d.write i l) (.returned (.int .i64 2)) w) := Lib.hid (by
        unfold Dk.D.writeE Dk.D.write
        rw [if_neg hi, if_neg hi, if_pos hlen, if_pos hlen]
        exact ⟨rfl, Step.quiet h ht (Below.refl _ _)⟩)
      have hlI : (32 : Int) < (l.length : Int) := by omega
      clear hi e1 HFA hlen
      go_enter Try.func33, Try.ntmps33
      go_wp2_with fail
      refine HH.mono ?_
      rintro e w' ⟨rfl, rfl⟩
      go_wp2
      go_ret
      exact HE.out
    · have hlI : ¬ (32 : Int) < (l.length : Int) := by omega
      cases hb : d.bad with
      | true =>
        have HE : Hid (∀ w', Step w a d.asked w' → ErrPost w a (d.writeE i l) (d.write i l) (.returned (.int .i64 21)) w') := Lib.hid (fun w' hs => by
          unfold Dk.D.writeE Dk.D.write
          rw [if_neg hi, if_neg hi, if_neg hlen, if_neg hlen, hb, if_pos rfl, if_pos rfl]
          exact ⟨rfl, hs⟩)
        rw [hb] at HFA
        clear hi e1 hlen hb
        go_enter Try.func33, Try.ntmps33
        go_wp2_with fail
        refine HH.mono ?_
        rintro e w' ⟨rfl, rfl⟩
        go_wp2_with fail
        refine HFA.mono ?_
        rintro e w' ⟨rfl, hs⟩
        have HE2 := Lib.hid (HE.out _ hs)
        clear hs
        go_wp2
        go_ret
        exact HE2.out
      | false =>
        have HE : Hid (∀ w', Step w a { d.asked with st := d.st ++ [(i.toNat, Dk.pad l)] } w' → ErrPost w a (d.writeE i l) (d.write i l) (.returned (.int .i64 0)) w') := Lib.hid (fun w' hs => by
          unfold Dk.D.writeE Dk.D.write
          rw [if_neg hi, if_neg hi, if_neg hlen, if_neg hlen, hb]
          exact ⟨rfl, hs⟩)
        rw [hb] at HFA
        clear e1 hb
        obtain ⟨j, rfl⟩ := Int.eq_ofNat_of_zero_le (show 0 ≤ i by omega)
        have hjn : j < d.n := by omega
        obtain ⟨j0, hj0⟩ : ∃ j0 : Int, j0 = (j : Int) := ⟨_, rfl⟩
        rw [← hj0] at HH ⊢
        have HJ0 := Lib.hid hj0
        clear hj0
        clear hi
        go_enter Try.func33, Try.ntmps33
        go_wp2_with fail
        refine HH.mono ?_
        rintro e w' ⟨rfl, rfl⟩
        go_wp2_with fail
        refine HFA.mono ?_
        rintro e w1 ⟨rfl, a1, hP1, hk1, hat1, ht1, ho1, hF1⟩
        have HIN : Hid (0 < l.length → ∃ ad, A = some ad ∧ ∀ j v, (bcs l)[j]? = some v → (w1.alloc (.cells (cS j0 z32) 68)).cell? (ad.add j) = some v) := Lib.hid (fun hn => by
          obtain ⟨b, off, rfl, hb, hc⟩ := hA hn
          refine ⟨_, rfl, fun k v hv => ?_⟩
          rw [Addr.add_mid, World.cell?_alloc_lt _ _ _ (show b < w1.heap.size from Nat.lt_of_lt_of_le hb ho1.size), World.cell?_of_block (w := w) (w' := w1) (a := ⟨b, off + k, none⟩) (ho1.block b hb (hF hn _ rfl))]
          have hk : k < l.length := by have := (List.getElem?_eq_some_iff.1 hv).1; simpa [bcs] using this
          rw [hc k hk]
          simpa [bcs, List.getElem?_eq_getElem hk] using hv)
        have HAT := Lib.hid hat1
        have HT := Lib.hid ht1
        have HO := Lib.hid ho1
        have HF1 := Lib.hid hF1
        have HP := Lib.hid hP1
        have HK := Lib.hid hk1
        clear hat1 ht1 ho1 hF1 hP1 hk1 hA hF h ht HH
        go_wp2_with (first
          | ((with_reducible refine wpList_buildTo (o := ⟨some 18, _, _, _, _, _⟩) rfl 68 _ rfl (some 18) rfl (cS j0 z32) ?_ ?_); exact built_staged j0)
          | (with_reducible refine wpList_alloc_z (s := 7) 68 zS zS_run ?_)
          | ((with_reducible refine wpList_store_new 68 (.tmp 7) (.tmp 18) zS (cS j0 z32) ?_ ?_ ?_ ?_ ?_ ?_); exact rfl; exact rfl; exact (by rw [cS_size]; exact sizeStaged); exact (by rw [cS_size, zS_size]; rfl); exact (cS_one _ _))
          | ((with_reducible refine wpList_copy_splice (o := ⟨some 22, _, _, _, _, _⟩) rfl (.tmp 20) (.tmp 21) 29 29 rfl 5 Try.underlying29 (by kernel_rfl) (some ⟨w1.heap.size, 1, none⟩) A 32 32 l.length cap ?_ ?_ w1.heap.size 1 (.int .i64 j0 :: bcs z32) 68 ?_ (bcs l) ?_ ?_ ?_ (bcs_one l) w1.heap.size w1 ((Below.refl _ _).alloc (Nat.le_refl _) _) (Nat.le_refl _) ?_); exact rfl; exact rfl; exact (heap_alloc_new w1 _); exact (by rw [bcs_len]; exact (Nat.min_eq_left (by omega)).symm); exact (fun hn => ⟨rfl, HIN.out (by simpa [bcs_len] using hn)⟩); exact (by simp [bcs_len, z32_len]; omega); intro w2 HW2 HB2; rw [splice_staged j0 l] at HW2))
        have hd2 : DAt w2 a1 d.asked := HAT.out.same (fun x hx => HB2.block x (HT.out.all x hx))
        have ht2 : There w2 a1 := HT.out.more HB2.size
        have hst2 := hd2.st
        rw [Dk.asked_st] at hst2
        have c1 := hd2.c.2.1
        rw [Dk.asked_st] at c1
        have f1 := hd2.fr 1
        have hlt1 : a1.P < w1.heap.size := HT.out.all _ ((mem_F a1 _).2 (.inl rfl))
        have HD2 := Lib.hid hd2
        have HT2 := Lib.hid ht2
        clear hd2 ht2
        rw [HP.out] at c1 f1 hlt1
        obtain ⟨g, hg⟩ : ∃ g, g = w1.heap.size := ⟨_, rfl⟩
        rw [← hg] at hlt1 HW2 ⊢
        have HG := Lib.hid hg
        clear hg
        obtain ⟨m, hm⟩ : ∃ m, m = d.st.length := ⟨_, rfl⟩
        rw [← hm] at hst2 c1 hst
        have hm63 : m + 1 ≤ maxLen := by unfold maxLen; omega
        have hm64 : (m + 1) * 40 ≤ 140737488355328 := by omega
        have HM := Lib.hid hm
        clear hm
        obtain ⟨S1, hS1⟩ : ∃ S1, S1 = a1.S := ⟨_, rfl⟩
        obtain ⟨cS1, hcS1⟩ : ∃ c, c = a1.cS := ⟨_, rfl⟩
        rw [← hS1, ← hcS1] at hst2 c1
        have HS1 := Lib.hid hS1
        have HcS1 := Lib.hid hcS1
        clear hS1 hcS1
        have hrg : w2.rangeAt g 0 (cS j0 (Dk.pad l)).toList := fun j v hv => by
          rw [Nat.zero_add, cell_of_row w2 g j _ _ _ HW2.out]
          simpa [cS] using hv
        have hst2' : w2.drew.ownsRow 0 68 33 (.slice S1 m cS1) m (scs d.st) := hst2
        have c1' : (w2.drew.alloc (.cells (cS j0 (Dk.pad l)) 68)).cell? ⟨a.P, 1, none⟩ = some (.slice S1 m cS1) := (World.cell?_alloc_lt w2.drew _ ⟨a.P, 1, none⟩ (World.block_lt_of_cell? w2 _ c1)).trans c1
        have hblk3 : ∀ w3, (w2.drew.alloc (.cells (cS j0 (Dk.pad l)) 68)).grownBy w3 (Value.slice S1 m cS1).ownBlock → ∀ b, b < w2.heap.size → b ∉ blkOf S1 → w3.heap[b]? = w2.heap[b]? := fun w3 hg b hb hn => by
          have hne : some b ≠ (Value.slice S1 m cS1).ownBlock := by
            intro e
            cases S1 with
            | none => cases e
            | some ad => injection e with e; exact hn (by simp [blkOf, e])
          rw [hg.block b (by simp; omega) hne, Below.heap_alloc w2.drew _ b hb]
          rfl
        have hgS : g ∉ blkOf S1 := fun hb => by
          have := HT.out.all g ((mem_F a1 _).2 (.inr (.inr (.inl (by rw [← HS1.out]; exact hb)))))
          have e := HG.out
          omega
        have hPS : a.P ∉ blkOf S1 := by rw [← HP.out, HS1.out]; exact HD2.out.PS
        have hg2 : g < w2.heap.size := lt_of_blk' HW2.out
        have hP2 : a.P < w2.heap.size := World.block_lt_of_cell? w2 _ c1
        have hkeep : ∀ w3, (w2.drew.alloc (.cells (cS j0 (Dk.pad l)) 68)).grownBy w3 (Value.slice S1 m cS1).ownBlock → w3.rangeAt g 0 (cS j0 (Dk.pad l)).toList := fun w3 hg j v hv =>
          (World.cell?_of_block (w := w2) (a := ⟨g, 0 + j, none⟩) (hblk3 w3 hg g hg2 hgS)).trans (hrg j v hv)
        have hcell3 : ∀ w3, (w2.drew.alloc (.cells (cS j0 (Dk.pad l)) 68)).grownBy w3 (Value.slice S1 m cS1).ownBlock → w3.cell? ⟨a.P, 1, none⟩ = some (.slice S1 m cS1) := fun w3 hg =>
          (World.cell?_of_block (w := w2) (a := ⟨a.P, 1, none⟩) (hblk3 w3 hg a.P hP2 hPS)).trans c1
        have hfr3 : ∀ w3, (w2.drew.alloc (.cells (cS j0 (Dk.pad l)) 68)).grownBy w3 (Value.slice S1 m cS1).ownBlock → w3.frozen? ⟨a.P, 1, none⟩ = false := fun w3 hg =>
          (World.frozen?_of_block (w := w2) (a := ⟨a.P, 1, none⟩) (hblk3 w3 hg a.P hP2 hPS)).trans f1
        have hrng3 : ∀ w3 u, (w2.drew.alloc (.cells (cS j0 (Dk.pad l)) 68)).grownBy w3 (Value.slice S1 m cS1).ownBlock → (w3.setCell ⟨a.P, 1, none⟩ u).rangeAt g 0 (cS j0 (Dk.pad l)).toList := fun w3 u hg j v hv =>
          (World.cell?_of_block (w := w3) (a := ⟨g, 0 + j, none⟩) (setP_other w3 a.P 1 u g (by omega))).trans (hkeep w3 hg j v hv)
        have hfin : ∀ gg cp w3, w3.ownsRow 0 68 33 (.slice (some ⟨gg, 0, none⟩) (m + 1) cp) (m + 1) (scs d.st ++ (cS j0 (Dk.pad l)).toList) → (w2.drew.alloc (.cells (cS j0 (Dk.pad l)) 68)).grownBy w3 (Value.slice S1 m cS1).ownBlock → ((Value.slice S1 m cS1).ownBlock = some gg ∨ gg = w2.drew.heap.size + 1) → gg < w3.heap.size →
            Step w a { d.asked with st := d.st ++ [((j : Int).toNat, Dk.pad l)] } (w3.setCell ⟨a.P, 1, none⟩ (.slice (some ⟨gg, 0, none⟩) (m + 1) cp)) := by
          intro gg cp w3 hown hgrow hat hlt
          have e1 : (cS j0 (Dk.pad l)).toList = .int .i64 (j : Int) :: bcs (Dk.pad l) := by rw [HJ0.out]; rfl
          rw [e1, ← Dk.asked_st] at hown
          rw [HS1.out, HcS1.out] at hgrow hat
          have := step_push (w := w) (a := a) (j := j) (x := Dk.pad l) (by rw [Dk.asked_st, HM.out]) HD2.out HT2.out (HO.out.trans (Out.of (F := []) HB2) (fun x hx => by cases hx)) HF1.out HP.out HK.out (by rw [Dk.asked_n]; exact hjn) (Dk.pad_len l (by omega)) hown hgrow hat hlt
          rw [Dk.asked_st, HP.out] at this
          rw [Int.toNat_natCast]
          exact this
        refine wp_region_held_drew (S := fun wx => wx.rangeAt g 0 (cS j0 (Dk.pad l)).toList) (by kernel_rfl) hrg (fun hHeld => ?_)
        refine wpAnyH_take (i := 0) (oi := ⟨_, _, _, _, _, _⟩) (v := .pointer (some ⟨a.P, 0, none⟩)) rfl (by kernel_rfl) (by kernel_rfl) (by kernel_rfl) (fun _ _ _ h => h) (Or.inl ⟨by rfl, by intro wx hSw; (try dsimp only at hSw); go_simp⟩) (by assumption) ?_
        simp only [Act.put, List.setIfInBounds_toArray, List.set_cons_zero, List.set_cons_succ]
        refine wpAnyH_take (i := 1) (oi := ⟨_, _, _, _, _, _⟩) (v := .pointer (some ⟨a.P, 0, none⟩)) rfl (by kernel_rfl) (by kernel_rfl) (by kernel_rfl) (fun _ _ _ h => h) (Or.inl ⟨by rfl, by intro wx hSw; (try dsimp only at hSw); go_simp⟩) (by assumption) ?_
        simp only [Act.put, List.setIfInBounds_toArray, List.set_cons_zero, List.set_cons_succ]
        refine wpAnyH_take (i := 2) (oi := ⟨_, _, _, _, _, _⟩) (v := .pointer (some ⟨a.P, 0, none⟩)) rfl (by kernel_rfl) (by kernel_rfl) (by kernel_rfl) (fun _ _ _ h => h) (Or.inl ⟨by rfl, by intro wx hSw; (try dsimp only at hSw); go_simp⟩) (by assumption) ?_
        simp only [Act.put, List.setIfInBounds_toArray, List.set_cons_zero, List.set_cons_succ]
        refine wpAnyH_take (i := 3) (oi := ⟨_, _, _, _, _, _⟩) (v := .pointer (some ⟨a.P, 1, none⟩)) rfl (by kernel_rfl) (by kernel_rfl) (by kernel_rfl) (fun _ _ _ h => h) (Or.inl ⟨by rfl, by intro wx hSw; (try dsimp only at hSw); go_simp⟩) (by assumption) ?_
        simp only [Act.put, List.setIfInBounds_toArray, List.set_cons_zero, List.set_cons_succ]
        refine wpAnyH_take (i := 5) (oi := ⟨_, _, _, _, _, _⟩) (v := .agg (cS j0 (Dk.pad l))) rfl (by kernel_rfl) (by kernel_rfl) (by kernel_rfl) (fun _ _ _ h => h) (yieldsIf_load_mid (by rfl) _ _ rfl g 0 rfl (cS j0 (Dk.pad l)).toList _ (fun _ hw => hw) Try.underlying68 rfl (by rw [Array.length_toList, cS_size, Dk.pad_len l (by omega)]; exact sizeStaged)) (by assumption) ?_
        simp only [Act.put, List.setIfInBounds_toArray, List.set_cons_zero, List.set_cons_succ]
        refine wpAnyH_ready (rs := [4, 6]) (by kernel_rfl) (by simp) ?_
        refine AllReadyH.cons (o := ⟨_, _, _, _, _, _⟩) rfl (fun K hK => ?_) (AllReadyH.cons (o := ⟨_, _, _, _, _, _⟩) rfl (fun K hK => ?_) AllReadyH.nil)
        · rw [if_pos (by rfl)]
          refine wp_load1 58 _ rfl ⟨a.P, 1, none⟩ rfl (.slice S1 m cS1) c1 _ Try.underlying58 rfl ?_
          refine hK.out _ _ hHeld (fun hHeld => ?_)
          clear hK K
          simp only [Act.put, List.setIfInBounds_toArray, List.set_cons_zero, List.set_cons_succ]
          refine wpAnyH_ready (rs := [6]) (by kernel_rfl) (by simp) ?_
          refine AllReadyH.cons (o := ⟨_, _, _, _, _, _⟩) rfl (fun K hK => ?_) AllReadyH.nil
          rw [if_pos (by rfl)]
          refine wp_buildSlice 58 68 1 _ rfl (cS j0 (Dk.pad l)) i0 (.agg zS) Try.underlying58 hi0 hz0 (by rw [hz1]; decide) (by rw [hz1]; decide) (by rw [hz1, Array.toList_map]; exact fill_staged (cS j0 (Dk.pad l)) (by rw [cS_size, Dk.pad_len l (by omega)])) ?_
          refine hK.out _ _ (World.rangeAt_alloc hHeld _) (fun hHeld => ?_)
          clear hK K
          simp only [Act.put, List.setIfInBounds_toArray, List.set_cons_zero, List.set_cons_succ]
          refine wpAnyH_ready (rs := [7]) (by kernel_rfl) (by simp) ?_
          refine AllReadyH.cons (o := ⟨_, _, _, _, _, _⟩) rfl (fun K hK => ?_) AllReadyH.nil
          rw [if_pos (by rfl)]
          refine wp_append_lies _ (.tmp 27) (.tmp 29) 58 rfl 0 68 i0 (.agg zS) 33 40 Try.underlying58 hi0 hz0 hz1 hz2 zS_size (by omega) (.slice S1 m cS1) m (scs d.st) rfl (hst2'.alloc _) ⟨w2.drew.heap.size, 0, none⟩ 1 1 (cS j0 (Dk.pad l)).toList rfl (by rw [Array.length_toList, cS_size, Dk.pad_len l (by omega)]) (World.news_of_block (heap_alloc_new w2.drew _)) (fun v hv => Array.all_eq_true_iff_forall_mem.1 (cS_one j0 (Dk.pad l)) v (by simpa using hv)) (by omega) hm63 hm64 (Nat.zero_le _) (w2.drew.heap.size + 1) (by simp) ?_
          intro gg cp w3 hown3 hgrow3 hat3 hlt3
          refine hK.out _ _ (hkeep _ hgrow3) (fun hHeld => ?_)
          clear hK K
          simp only [Act.put, List.setIfInBounds_toArray, List.set_cons_zero, List.set_cons_succ]
          refine wpAnyH_take (i := 8) (oi := ⟨_, _, _, _, _, _⟩) (v := .pointer (some ⟨a.P, 0, none⟩)) rfl (by kernel_rfl) (by kernel_rfl) (by kernel_rfl) (fun _ _ _ h => h) (Or.inl ⟨by rfl, by intro wx hSw; (try dsimp only at hSw); go_simp⟩) (by assumption) ?_
          simp only [Act.put, List.setIfInBounds_toArray, List.set_cons_zero, List.set_cons_succ]
          refine wpAnyH_take (i := 9) (oi := ⟨_, _, _, _, _, _⟩) (v := .pointer (some ⟨a.P, 1, none⟩)) rfl (by kernel_rfl) (by kernel_rfl) (by kernel_rfl) (fun _ _ _ h => h) (Or.inl ⟨by rfl, by intro wx hSw; (try dsimp only at hSw); go_simp⟩) (by assumption) ?_
          simp only [Act.put, List.setIfInBounds_toArray, List.set_cons_zero, List.set_cons_succ]
          refine wpAnyH_ready (rs := [10]) (by kernel_rfl) (by simp) ?_
          refine AllReadyH.cons (o := ⟨_, _, _, _, _, _⟩) rfl (fun K hK => ?_) AllReadyH.nil
          rw [if_pos (by rfl)]
          refine wp_store1 58 _ _ rfl a.P 1 rfl (.slice (some ⟨gg, 0, none⟩) (m + 1) cp) (.slice S1 m cS1) rfl rfl (hcell3 _ hgrow3) (hfr3 _ hgrow3) (by kernel_rfl) ?_
          refine hK.out _ _ (hrng3 _ _ hgrow3) (fun hHeld => ?_)
          clear hK K
          simp only [Act.put, List.setIfInBounds_toArray, List.set_cons_zero, List.set_cons_succ]
          refine wpAnyH_done (by kernel_rfl) ?_ _
          have HFIN := Lib.hid (hfin gg cp w3 hown3 hgrow3 hat3 hlt3)
          clear hown3 hgrow3 hat3 hlt3 hkeep hcell3 hfr3 hrng3 hHeld hfin hst2' hst2 c1 c1' f1
          go_wp2
          go_ret
          have HZ := HE.out _ HFIN.out
          rw [← HJ0.out] at HZ
          exact HZ
        · rw [if_pos (by rfl)]
          refine wp_buildSlice 58 68 1 _ rfl (cS j0 (Dk.pad l)) i0 (.agg zS) Try.underlying58 hi0 hz0 (by rw [hz1]; decide) (by rw [hz1]; decide) (by rw [hz1, Array.toList_map]; exact fill_staged (cS j0 (Dk.pad l)) (by rw [cS_size, Dk.pad_len l (by omega)])) ?_
          refine hK.out _ _ (World.rangeAt_alloc hHeld _) (fun hHeld => ?_)
          clear hK K
          simp only [Act.put, List.setIfInBounds_toArray, List.set_cons_zero, List.set_cons_succ]
          refine wpAnyH_ready (rs := [4]) (by kernel_rfl) (by simp) ?_
          refine AllReadyH.cons (o := ⟨_, _, _, _, _, _⟩) rfl (fun K hK => ?_) AllReadyH.nil
          rw [if_pos (by rfl)]
          refine wp_load1 58 _ rfl ⟨a.P, 1, none⟩ rfl (.slice S1 m cS1) c1' _ Try.underlying58 rfl ?_
          refine hK.out _ _ hHeld (fun hHeld => ?_)
          clear hK K
          simp only [Act.put, List.setIfInBounds_toArray, List.set_cons_zero, List.set_cons_succ]
          refine wpAnyH_ready (rs := [7]) (by kernel_rfl) (by simp) ?_
          refine AllReadyH.cons (o := ⟨_, _, _, _, _, _⟩) rfl (fun K hK => ?_) AllReadyH.nil
          rw [if_pos (by rfl)]
          refine wp_append_lies _ (.tmp 27) (.tmp 29) 58 rfl 0 68 i0 (.agg zS) 33 40 Try.underlying58 hi0 hz0 hz1 hz2 zS_size (by omega) (.slice S1 m cS1) m (scs d.st) rfl (hst2'.alloc _) ⟨w2.drew.heap.size, 0, none⟩ 1 1 (cS j0 (Dk.pad l)).toList rfl (by rw [Array.length_toList, cS_size, Dk.pad_len l (by omega)]) (World.news_of_block (heap_alloc_new w2.drew _)) (fun v hv => Array.all_eq_true_iff_forall_mem.1 (cS_one j0 (Dk.pad l)) v (by simpa using hv)) (by omega) hm63 hm64 (Nat.zero_le _) (w2.drew.heap.size + 1) (by simp) ?_
          intro gg cp w3 hown3 hgrow3 hat3 hlt3
          refine hK.out _ _ (hkeep _ hgrow3) (fun hHeld => ?_)
          clear hK K
          simp only [Act.put, List.setIfInBounds_toArray, List.set_cons_zero, List.set_cons_succ]
          refine wpAnyH_take (i := 8) (oi := ⟨_, _, _, _, _, _⟩) (v := .pointer (some ⟨a.P, 0, none⟩)) rfl (by kernel_rfl) (by kernel_rfl) (by kernel_rfl) (fun _ _ _ h => h) (Or.inl ⟨by rfl, by intro wx hSw; (try dsimp only at hSw); go_simp⟩) (by assumption) ?_
          simp only [Act.put, List.setIfInBounds_toArray, List.set_cons_zero, List.set_cons_succ]
          refine wpAnyH_take (i := 9) (oi := ⟨_, _, _, _, _, _⟩) (v := .pointer (some ⟨a.P, 1, none⟩)) rfl (by kernel_rfl) (by kernel_rfl) (by kernel_rfl) (fun _ _ _ h => h) (Or.inl ⟨by rfl, by intro wx hSw; (try dsimp only at hSw); go_simp⟩) (by assumption) ?_
          simp only [Act.put, List.setIfInBounds_toArray, List.set_cons_zero, List.set_cons_succ]
          refine wpAnyH_ready (rs := [10]) (by kernel_rfl) (by simp) ?_
          refine AllReadyH.cons (o := ⟨_, _, _, _, _, _⟩) rfl (fun K hK => ?_) AllReadyH.nil
          rw [if_pos (by rfl)]
          refine wp_store1 58 _ _ rfl a.P 1 rfl (.slice (some ⟨gg, 0, none⟩) (m + 1) cp) (.slice S1 m cS1) rfl rfl (hcell3 _ hgrow3) (hfr3 _ hgrow3) (by kernel_rfl) ?_
          refine hK.out _ _ (hrng3 _ _ hgrow3) (fun hHeld => ?_)
          clear hK K
          simp only [Act.put, List.setIfInBounds_toArray, List.set_cons_zero, List.set_cons_succ]
          refine wpAnyH_done (by kernel_rfl) ?_ _
          have HFIN := Lib.hid (hfin gg cp w3 hown3 hgrow3 hat3 hlt3)
          clear hown3 hgrow3 hat3 hlt3 hkeep hcell3 hfr3 hrng3 hHeld hfin hst2' hst2 c1 c1' f1
          go_wp2
          go_ret
          have HZ := HE.out _ HFIN.out
          rw [← HJ0.out] at HZ
          exact HZ
end Go.Proofs.Ytoaadallbpelbaa
