/- What the call Write of package disk does, for any disk that stages at most 1048575 blocks, and any bytes. What the calls Read and Bytes of package disk answer, for any disk. No condition. -/
import Derived.Test.YtkmljbbnpjlehaaDoorMg13
namespace Go.Proofs.YtkmljbbnpjlehaaDoor
set_option maxRecDepth 8000
open Go.RowKit

/-- Bytes that came in (at most so many as Go allows). -/
def BIn (w : World) (A : Option Addr) (l : List UInt8) : Prop := 0 < l.length → ∃ b off, A = some ⟨b, off, none⟩ ∧ b < w.heap.size ∧ ∀ k (h : k < l.length), w.cell? ⟨b, off + k, none⟩ = some (B l[k])
def ErrPost (w : World) (a : Mm) (x : Int) (d' : Dk.D) (e : Ending) (w' : World) : Prop := e = .returned (.int .i64 x) ∧ Step w a d' w'

set_option maxHeartbeats 1600000 in
theorem write_any (w : World) (a : Mm) (d : Dk.D) (i : Int) (A : Option Addr) (cap : Nat) (l : List UInt8) (h : DAt w a d) (ht : There w a) (hst : d.st.length ≤ 1048575) (hl : l.length ≤ 9223372036854775807) (hA : BIn w A l) (hF : 0 < l.length → ∀ ad, A = some ad → ad.block ∉ a.F) :
    Calls Tryd.prog 110 #[.pointer (some ⟨a.P, 0, none⟩), .int .i64 i, .slice A l.length cap] w (ErrPost w a (d.writeE i l) (d.write i l)) := by
  obtain ⟨i0, hi0, hz0, hz1, hz2⟩ := info_parts Tryd.infoStaged
  have HH := has_any w a d i h
  have HFA := fails_any w a d h ht
  by_cases hi : i < 0 ∨ (d.n : Int) ≤ i
  · have e1 : hasB d.n i = false := by unfold hasB; simp; omega
    rw [e1] at HH
    have HE : Hid (ErrPost w a (d.writeE i l) (d.write i l) (.returned (.int .i64 4)) w) := Lib.hid (by
      unfold Dk.D.writeE Dk.D.write
      rw [if_pos hi, if_pos hi]
      exact ⟨rfl, Step.quiet h ht (Below.refl _ _)⟩)
    clear hi e1 HFA
    go_enter Tryd.func110, Tryd.ntmps110
    go_wp2_with fail
    refine HH.mono ?_
    rintro e w' ⟨rfl, rfl⟩
    go_wp2
    go_ret
    exact HE.out
  · have e1 : hasB d.n i = true := by unfold hasB; simp; omega
    rw [e1] at HH
    by_cases hlen : 32 < l.length
    · have HE : Hid (ErrPost w a (d.writeE i l) (d.write i l) (.returned (.int .i64 2)) w) := Lib.hid (by
        unfold Dk.D.writeE Dk.D.write
        rw [if_neg hi, if_neg hi, if_pos hlen, if_pos hlen]
        exact ⟨rfl, Step.quiet h ht (Below.refl _ _)⟩)
      have hlI : (32 : Int) < (l.length : Int) := by omega
      clear hi e1 HFA hlen
      go_enter Tryd.func110, Tryd.ntmps110
      go_wp2_with fail
      refine HH.mono ?_
      rintro e w' ⟨rfl, rfl⟩
      go_wp2
      go_ret
      exact HE.out
    · have hlI : ¬ (32 : Int) < (l.length : Int) := by omega
      cases hb : d.bad with
      | true =>
        have HE : Hid (∀ w', Step w a d.asked w' → ErrPost w a (d.writeE i l) (d.write i l) (.returned (.int .i64 21)) w') := Lib.hid (fun w' hs => by
          unfold Dk.D.writeE Dk.D.write
          rw [if_neg hi, if_neg hi, if_neg hlen, if_neg hlen, hb, if_pos rfl, if_pos rfl]
          exact ⟨rfl, hs⟩)
        rw [hb] at HFA
        clear hi e1 hlen hb
        go_enter Tryd.func110, Tryd.ntmps110
        go_wp2_with fail
        refine HH.mono ?_
        rintro e w' ⟨rfl, rfl⟩
        go_wp2_with fail
        refine HFA.mono ?_
        rintro e w' ⟨rfl, hs⟩
        have HE2 := Lib.hid (HE.out _ hs)
        clear hs
        go_wp2
        go_ret
        exact HE2.out
      | false =>
        have HE : Hid (∀ w', Step w a { d.asked with st := d.st ++ [(i.toNat, Dk.pad l)] } w' → ErrPost w a (d.writeE i l) (d.write i l) (.returned (.int .i64 0)) w') := Lib.hid (fun w' hs => by
          unfold Dk.D.writeE Dk.D.write
          rw [if_neg hi, if_neg hi, if_neg hlen, if_neg hlen, hb]
          exact ⟨rfl, hs⟩)
        rw [hb] at HFA
        clear e1 hb
        obtain ⟨j, rfl⟩ := Int.eq_ofNat_of_zero_le (show 0 ≤ i by omega)
        have hjn : j < d.n := by omega
        obtain ⟨j0, hj0⟩ : ∃ j0 : Int, j0 = (j : Int) := ⟨_, rfl⟩
        rw [← hj0] at HH ⊢
        have HJ0 := Lib.hid hj0
        clear hj0
        clear hi
        go_enter Tryd.func110, Tryd.ntmps110
        go_wp2_with fail
        refine HH.mono ?_
        rintro e w' ⟨rfl, rfl⟩
        go_wp2_with fail
        refine HFA.mono ?_
        rintro e w1 ⟨rfl, a1, hP1, hk1, hat1, ht1, ho1, hF1⟩
        have HIN : Hid (0 < l.length → ∃ ad, A = some ad ∧ ∀ j v, (bcs l)[j]? = some v → (w1.alloc (.cells (cS j0 z32) 124)).cell? (ad.add j) = some v) := Lib.hid (fun hn => by
          obtain ⟨b, off, rfl, hb, hc⟩ := hA hn
          refine ⟨_, rfl, fun k v hv => ?_⟩
          rw [Addr.add_mid, World.cell?_alloc_lt _ _ _ (show b < w1.heap.size from Nat.lt_of_lt_of_le hb ho1.size), World.cell?_of_block (w := w) (w' := w1) (a := ⟨b, off + k, none⟩) (ho1.block b hb (hF hn _ rfl))]
          have hk : k < l.length := by have := (List.getElem?_eq_some_iff.1 hv).1; simpa [bcs] using this
          rw [hc k hk]
          simpa [bcs, List.getElem?_eq_getElem hk] using hv)
        have HAT := Lib.hid hat1
        have HT := Lib.hid ht1
        have HO := Lib.hid ho1
        have HF1 := Lib.hid hF1
        have HP := Lib.hid hP1
        have HK := Lib.hid hk1
        clear hat1 ht1 ho1 hF1 hP1 hk1 hA hF h ht HH
        go_wp2_with (first
          | ((with_reducible refine wpList_buildTo (o := ⟨some 18, _, _, _, _, _⟩) rfl 124 _ rfl (some 18) rfl (cS j0 z32) ?_ ?_); exact built_staged j0)
          | (with_reducible refine wpList_alloc_z (s := 7) 124 zS zS_run ?_)
          | ((with_reducible refine wpList_store_new 124 (.tmp 7) (.tmp 18) zS (cS j0 z32) ?_ ?_ ?_ ?_ ?_ ?_); exact rfl; exact rfl; exact (by rw [cS_size]; exact sizeStaged); exact (by rw [cS_size, zS_size]; rfl); exact (cS_one _ _))
          | ((with_reducible refine wpList_copy_splice (o := ⟨some 22, _, _, _, _, _⟩) rfl (.tmp 20) (.tmp 21) 36 36 rfl 5 Tryd.underlying36 (by kernel_rfl) (some ⟨w1.heap.size, 1, none⟩) A 32 32 l.length cap ?_ ?_ w1.heap.size 1 (.int .i64 j0 :: bcs z32) 124 ?_ (bcs l) ?_ ?_ ?_ (bcs_one l) w1.heap.size w1 ((Below.refl _ _).alloc (Nat.le_refl _) _) (Nat.le_refl _) ?_); exact rfl; exact rfl; exact (heap_alloc_new w1 _); exact (by rw [bcs_len]; exact (Nat.min_eq_left (by omega)).symm); exact (fun hn => ⟨rfl, HIN.out (by simpa [bcs_len] using hn)⟩); exact (by simp [bcs_len, z32_len]; omega); intro w2 HW2 HB2; rw [splice_staged j0 l] at HW2))
        have hd2 : DAt w2 a1 d.asked := HAT.out.same (fun x hx => HB2.block x (HT.out.all x hx))
        have ht2 : There w2 a1 := HT.out.more HB2.size
        have hst2 := hd2.st
        rw [Dk.asked_st] at hst2
        have c1 := hd2.c.2.1
        rw [Dk.asked_st] at c1
        have f1 := hd2.fr 1
        have hlt1 : a1.P < w1.heap.size := HT.out.all _ ((mem_F a1 _).2 (.inl rfl))
        have HD2 := Lib.hid hd2
        have HT2 := Lib.hid ht2
        clear hd2 ht2
        rw [HP.out] at c1 f1 hlt1
        obtain ⟨g, hg⟩ : ∃ g, g = w1.heap.size := ⟨_, rfl⟩
        rw [← hg] at hlt1 HW2 ⊢
        have HG := Lib.hid hg
        clear hg
        obtain ⟨m, hm⟩ : ∃ m, m = d.st.length := ⟨_, rfl⟩
        rw [← hm] at hst2 c1 hst
        have hm63 : m + 1 ≤ maxLen := by unfold maxLen; omega
        have hm64 : (m + 1) * 40 ≤ 140737488355328 := by omega
        have HM := Lib.hid hm
        clear hm
        obtain ⟨S1, hS1⟩ : ∃ S1, S1 = a1.S := ⟨_, rfl⟩
        obtain ⟨cS1, hcS1⟩ : ∃ c, c = a1.cS := ⟨_, rfl⟩
        rw [← hS1, ← hcS1] at hst2 c1
        have HS1 := Lib.hid hS1
        have HcS1 := Lib.hid hcS1
        clear hS1 hcS1
        have hrg : w2.rangeAt g 0 (cS j0 (Dk.pad l)).toList := fun j v hv => by
          rw [Nat.zero_add, cell_of_row w2 g j _ _ _ HW2.out]
          simpa [cS] using hv
        have hst2' : w2.drew.ownsRow 0 124 33 (.slice S1 m cS1) m (scs d.st) := hst2
        have c1' : (w2.drew.alloc (.cells (cS j0 (Dk.pad l)) 124)).cell? ⟨a.P, 1, none⟩ = some (.slice S1 m cS1) := (World.cell?_alloc_lt w2.drew _ ⟨a.P, 1, none⟩ (World.block_lt_of_cell? w2 _ c1)).trans c1
        have hblk3 : ∀ w3, (w2.drew.alloc (.cells (cS j0 (Dk.pad l)) 124)).grownBy w3 (Value.slice S1 m cS1).ownBlock → ∀ b, b < w2.heap.size → b ∉ blkOf S1 → w3.heap[b]? = w2.heap[b]? := fun w3 hg b hb hn => by
          have hne : some b ≠ (Value.slice S1 m cS1).ownBlock := by
            intro e
            cases S1 with
            | none => cases e
            | some ad => injection e with e; exact hn (by simp [blkOf, e])
          rw [hg.block b (by simp; omega) hne, Below.heap_alloc w2.drew _ b hb]
          rfl
        have hgS : g ∉ blkOf S1 := fun hb => by
          have := HT.out.all g ((mem_F a1 _).2 (.inr (.inr (.inl (by rw [← HS1.out]; exact hb)))))
          have e := HG.out
          omega
        have hPS : a.P ∉ blkOf S1 := by rw [← HP.out, HS1.out]; exact HD2.out.PS
        have hg2 : g < w2.heap.size := lt_of_blk' HW2.out
        have hP2 : a.P < w2.heap.size := World.block_lt_of_cell? w2 _ c1
        have hkeep : ∀ w3, (w2.drew.alloc (.cells (cS j0 (Dk.pad l)) 124)).grownBy w3 (Value.slice S1 m cS1).ownBlock → w3.rangeAt g 0 (cS j0 (Dk.pad l)).toList := fun w3 hg j v hv =>
          (World.cell?_of_block (w := w2) (a := ⟨g, 0 + j, none⟩) (hblk3 w3 hg g hg2 hgS)).trans (hrg j v hv)
        have hcell3 : ∀ w3, (w2.drew.alloc (.cells (cS j0 (Dk.pad l)) 124)).grownBy w3 (Value.slice S1 m cS1).ownBlock → w3.cell? ⟨a.P, 1, none⟩ = some (.slice S1 m cS1) := fun w3 hg =>
          (World.cell?_of_block (w := w2) (a := ⟨a.P, 1, none⟩) (hblk3 w3 hg a.P hP2 hPS)).trans c1
        have hfr3 : ∀ w3, (w2.drew.alloc (.cells (cS j0 (Dk.pad l)) 124)).grownBy w3 (Value.slice S1 m cS1).ownBlock → w3.frozen? ⟨a.P, 1, none⟩ = false := fun w3 hg =>
          (World.frozen?_of_block (w := w2) (a := ⟨a.P, 1, none⟩) (hblk3 w3 hg a.P hP2 hPS)).trans f1
        have hrng3 : ∀ w3 u, (w2.drew.alloc (.cells (cS j0 (Dk.pad l)) 124)).grownBy w3 (Value.slice S1 m cS1).ownBlock → (w3.setCell ⟨a.P, 1, none⟩ u).rangeAt g 0 (cS j0 (Dk.pad l)).toList := fun w3 u hg j v hv =>
          (World.cell?_of_block (w := w3) (a := ⟨g, 0 + j, none⟩) (setP_other w3 a.P 1 u g (by omega))).trans (hkeep w3 hg j v hv)
        have hfin : ∀ gg cp w3, w3.ownsRow 0 124 33 (.slice (some ⟨gg, 0, none⟩) (m + 1) cp) (m + 1) (scs d.st ++ (cS j0 (Dk.pad l)).toList) → (w2.drew.alloc (.cells (cS j0 (Dk.pad l)) 124)).grownBy w3 (Value.slice S1 m cS1).ownBlock → ((Value.slice S1 m cS1).ownBlock = some gg ∨ gg = w2.drew.heap.size + 1) → gg < w3.heap.size →
            Step w a { d.asked with st := d.st ++ [((j : Int).toNat, Dk.pad l)] } (w3.setCell ⟨a.P, 1, none⟩ (.slice (some ⟨gg, 0, none⟩) (m + 1) cp)) := by
          intro gg cp w3 hown hgrow hat hlt
          have e1 : (cS j0 (Dk.pad l)).toList = .int .i64 (j : Int) :: bcs (Dk.pad l) := by rw [HJ0.out]; rfl
          rw [e1, ← Dk.asked_st] at hown
          rw [HS1.out, HcS1.out] at hgrow hat
          have := step_push (w := w) (a := a) (j := j) (x := Dk.pad l) (by rw [Dk.asked_st, HM.out]) HD2.out HT2.out (HO.out.trans (Out.of (F := []) HB2) (fun x hx => by cases hx)) HF1.out HP.out HK.out (by rw [Dk.asked_n]; exact hjn) (Dk.pad_len l (by omega)) hown hgrow hat hlt
          rw [Dk.asked_st, HP.out] at this
          rw [Int.toNat_natCast]
          exact this
        refine wp_region_held_drew (S := fun wx => wx.rangeAt g 0 (cS j0 (Dk.pad l)).toList) (by kernel_rfl) hrg (fun hHeld => ?_)
        refine wpAnyH_take (i := 0) (oi := ⟨_, _, _, _, _, _⟩) (v := .pointer (some ⟨a.P, 0, none⟩)) rfl (by kernel_rfl) (by kernel_rfl) (by kernel_rfl) (fun _ _ _ h => h) (Or.inl ⟨by rfl, by intro wx hSw; (try dsimp only at hSw); go_simp⟩) (by assumption) ?_
        simp only [Act.put, List.setIfInBounds_toArray, List.set_cons_zero, List.set_cons_succ]
        refine wpAnyH_take (i := 1) (oi := ⟨_, _, _, _, _, _⟩) (v := .pointer (some ⟨a.P, 0, none⟩)) rfl (by kernel_rfl) (by kernel_rfl) (by kernel_rfl) (fun _ _ _ h => h) (Or.inl ⟨by rfl, by intro wx hSw; (try dsimp only at hSw); go_simp⟩) (by assumption) ?_
        simp only [Act.put, List.setIfInBounds_toArray, List.set_cons_zero, List.set_cons_succ]
        refine wpAnyH_take (i := 2) (oi := ⟨_, _, _, _, _, _⟩) (v := .pointer (some ⟨a.P, 0, none⟩)) rfl (by kernel_rfl) (by kernel_rfl) (by kernel_rfl) (fun _ _ _ h => h) (Or.inl ⟨by rfl, by intro wx hSw; (try dsimp only at hSw); go_simp⟩) (by assumption) ?_
        simp only [Act.put, List.setIfInBounds_toArray, List.set_cons_zero, List.set_cons_succ]
        refine wpAnyH_take (i := 3) (oi := ⟨_, _, _, _, _, _⟩) (v := .pointer (some ⟨a.P, 1, none⟩)) rfl (by kernel_rfl) (by kernel_rfl) (by kernel_rfl) (fun _ _ _ h => h) (Or.inl ⟨by rfl, by intro wx hSw; (try dsimp only at hSw); go_simp⟩) (by assumption) ?_
        simp only [Act.put, List.setIfInBounds_toArray, List.set_cons_zero, List.set_cons_succ]
        refine wpAnyH_take (i := 5) (oi := ⟨_, _, _, _, _, _⟩) (v := .agg (cS j0 (Dk.pad l))) rfl (by kernel_rfl) (by kernel_rfl) (by kernel_rfl) (fun _ _ _ h => h) (yieldsIf_load_mid (by rfl) _ _ rfl g 0 rfl (cS j0 (Dk.pad l)).toList _ (fun _ hw => hw) Tryd.underlying124 rfl (by rw [Array.length_toList, cS_size, Dk.pad_len l (by omega)]; exact sizeStaged)) (by assumption) ?_
        simp only [Act.put, List.setIfInBounds_toArray, List.set_cons_zero, List.set_cons_succ]
        refine wpAnyH_ready (rs := [4, 6]) (by kernel_rfl) (by simp) ?_
        refine AllReadyH.cons (o := ⟨_, _, _, _, _, _⟩) rfl (fun K hK => ?_) (AllReadyH.cons (o := ⟨_, _, _, _, _, _⟩) rfl (fun K hK => ?_) AllReadyH.nil)
        · rw [if_pos (by rfl)]
          refine wp_load1 99 _ rfl ⟨a.P, 1, none⟩ rfl (.slice S1 m cS1) c1 _ Tryd.underlying99 rfl ?_
          refine hK.out _ _ hHeld (fun hHeld => ?_)
          clear hK K
          simp only [Act.put, List.setIfInBounds_toArray, List.set_cons_zero, List.set_cons_succ]
          refine wpAnyH_ready (rs := [6]) (by kernel_rfl) (by simp) ?_
          refine AllReadyH.cons (o := ⟨_, _, _, _, _, _⟩) rfl (fun K hK => ?_) AllReadyH.nil
          rw [if_pos (by rfl)]
          refine wp_buildSlice 99 124 1 _ rfl (cS j0 (Dk.pad l)) i0 (.agg zS) Tryd.underlying99 hi0 hz0 (by rw [hz1]; decide) (by rw [hz1]; decide) (by rw [hz1, Array.toList_map]; exact fill_staged (cS j0 (Dk.pad l)) (by rw [cS_size, Dk.pad_len l (by omega)])) ?_
          refine hK.out _ _ (World.rangeAt_alloc hHeld _) (fun hHeld => ?_)
          clear hK K
          simp only [Act.put, List.setIfInBounds_toArray, List.set_cons_zero, List.set_cons_succ]
          refine wpAnyH_ready (rs := [7]) (by kernel_rfl) (by simp) ?_
          refine AllReadyH.cons (o := ⟨_, _, _, _, _, _⟩) rfl (fun K hK => ?_) AllReadyH.nil
          rw [if_pos (by rfl)]
          refine wp_append_lies _ (.tmp 27) (.tmp 29) 99 rfl 0 124 i0 (.agg zS) 33 40 Tryd.underlying99 hi0 hz0 hz1 hz2 zS_size (by omega) (.slice S1 m cS1) m (scs d.st) rfl (hst2'.alloc _) ⟨w2.drew.heap.size, 0, none⟩ 1 1 (cS j0 (Dk.pad l)).toList rfl (by rw [Array.length_toList, cS_size, Dk.pad_len l (by omega)]) (World.news_of_block (heap_alloc_new w2.drew _)) (fun v hv => Array.all_eq_true_iff_forall_mem.1 (cS_one j0 (Dk.pad l)) v (by simpa using hv)) (by omega) hm63 hm64 (Nat.zero_le _) (w2.drew.heap.size + 1) (by simp) ?_
          intro gg cp w3 hown3 hgrow3 hat3 hlt3
          refine hK.out _ _ (hkeep _ hgrow3) (fun hHeld => ?_)
          clear hK K
          simp only [Act.put, List.setIfInBounds_toArray, List.set_cons_zero, List.set_cons_succ]
          refine wpAnyH_take (i := 8) (oi := ⟨_, _, _, _, _, _⟩) (v := .pointer (some ⟨a.P, 0, none⟩)) rfl (by kernel_rfl) (by kernel_rfl) (by kernel_rfl) (fun _ _ _ h => h) (Or.inl ⟨by rfl, by intro wx hSw; (try dsimp only at hSw); go_simp⟩) (by assumption) ?_
          simp only [Act.put, List.setIfInBounds_toArray, List.set_cons_zero, List.set_cons_succ]
          refine wpAnyH_take (i := 9) (oi := ⟨_, _, _, _, _, _⟩) (v := .pointer (some ⟨a.P, 1, none⟩)) rfl (by kernel_rfl) (by kernel_rfl) (by kernel_rfl) (fun _ _ _ h => h) (Or.inl ⟨by rfl, by intro wx hSw; (try dsimp only at hSw); go_simp⟩) (by assumption) ?_
          simp only [Act.put, List.setIfInBounds_toArray, List.set_cons_zero, List.set_cons_succ]
          refine wpAnyH_ready (rs := [10]) (by kernel_rfl) (by simp) ?_
          refine AllReadyH.cons (o := ⟨_, _, _, _, _, _⟩) rfl (fun K hK => ?_) AllReadyH.nil
          rw [if_pos (by rfl)]
          refine wp_store1 99 _ _ rfl a.P 1 rfl (.slice (some ⟨gg, 0, none⟩) (m + 1) cp) (.slice S1 m cS1) rfl rfl (hcell3 _ hgrow3) (hfr3 _ hgrow3) (by kernel_rfl) ?_
          refine hK.out _ _ (hrng3 _ _ hgrow3) (fun hHeld => ?_)
          clear hK K
          simp only [Act.put]
          refine wpAnyH_done (by kernel_rfl) ?_ _
          have HFIN := Lib.hid (hfin gg cp w3 hown3 hgrow3 hat3 hlt3)
          clear hown3 hgrow3 hat3 hlt3 hkeep hcell3 hfr3 hrng3 hHeld hfin hst2' hst2 c1 c1' f1
          go_wp2
          go_ret
          have HZ := HE.out _ HFIN.out
          rw [← HJ0.out] at HZ
          exact HZ
        · rw [if_pos (by rfl)]
          refine wp_buildSlice 99 124 1 _ rfl (cS j0 (Dk.pad l)) i0 (.agg zS) Tryd.underlying99 hi0 hz0 (by rw [hz1]; decide) (by rw [hz1]; decide) (by rw [hz1, Array.toList_map]; exact fill_staged (cS j0 (Dk.pad l)) (by rw [cS_size, Dk.pad_len l (by omega)])) ?_
          refine hK.out _ _ (World.rangeAt_alloc hHeld _) (fun hHeld => ?_)
          clear hK K
          simp only [Act.put, List.setIfInBounds_toArray, List.set_cons_zero, List.set_cons_succ]
          refine wpAnyH_ready (rs := [4]) (by kernel_rfl) (by simp) ?_
          refine AllReadyH.cons (o := ⟨_, _, _, _, _, _⟩) rfl (fun K hK => ?_) AllReadyH.nil
          rw [if_pos (by rfl)]
          refine wp_load1 99 _ rfl ⟨a.P, 1, none⟩ rfl (.slice S1 m cS1) c1' _ Tryd.underlying99 rfl ?_
          refine hK.out _ _ hHeld (fun hHeld => ?_)
          clear hK K
          simp only [Act.put, List.setIfInBounds_toArray, List.set_cons_zero, List.set_cons_succ]
          refine wpAnyH_ready (rs := [7]) (by kernel_rfl) (by simp) ?_
          refine AllReadyH.cons (o := ⟨_, _, _, _, _, _⟩) rfl (fun K hK => ?_) AllReadyH.nil
          rw [if_pos (by rfl)]
          refine wp_append_lies _ (.tmp 27) (.tmp 29) 99 rfl 0 124 i0 (.agg zS) 33 40 Tryd.underlying99 hi0 hz0 hz1 hz2 zS_size (by omega) (.slice S1 m cS1) m (scs d.st) rfl (hst2'.alloc _) ⟨w2.drew.heap.size, 0, none⟩ 1 1 (cS j0 (Dk.pad l)).toList rfl (by rw [Array.length_toList, cS_size, Dk.pad_len l (by omega)]) (World.news_of_block (heap_alloc_new w2.drew _)) (fun v hv => Array.all_eq_true_iff_forall_mem.1 (cS_one j0 (Dk.pad l)) v (by simpa using hv)) (by omega) hm63 hm64 (Nat.zero_le _) (w2.drew.heap.size + 1) (by simp) ?_
          intro gg cp w3 hown3 hgrow3 hat3 hlt3
          refine hK.out _ _ (hkeep _ hgrow3) (fun hHeld => ?_)
          clear hK K
          simp only [Act.put, List.setIfInBounds_toArray, List.set_cons_zero, List.set_cons_succ]
          refine wpAnyH_take (i := 8) (oi := ⟨_, _, _, _, _, _⟩) (v := .pointer (some ⟨a.P, 0, none⟩)) rfl (by kernel_rfl) (by kernel_rfl) (by kernel_rfl) (fun _ _ _ h => h) (Or.inl ⟨by rfl, by intro wx hSw; (try dsimp only at hSw); go_simp⟩) (by assumption) ?_
          simp only [Act.put, List.setIfInBounds_toArray, List.set_cons_zero, List.set_cons_succ]
          refine wpAnyH_take (i := 9) (oi := ⟨_, _, _, _, _, _⟩) (v := .pointer (some ⟨a.P, 1, none⟩)) rfl (by kernel_rfl) (by kernel_rfl) (by kernel_rfl) (fun _ _ _ h => h) (Or.inl ⟨by rfl, by intro wx hSw; (try dsimp only at hSw); go_simp⟩) (by assumption) ?_
          simp only [Act.put, List.setIfInBounds_toArray, List.set_cons_zero, List.set_cons_succ]
          refine wpAnyH_ready (rs := [10]) (by kernel_rfl) (by simp) ?_
          refine AllReadyH.cons (o := ⟨_, _, _, _, _, _⟩) rfl (fun K hK => ?_) AllReadyH.nil
          rw [if_pos (by rfl)]
          refine wp_store1 99 _ _ rfl a.P 1 rfl (.slice (some ⟨gg, 0, none⟩) (m + 1) cp) (.slice S1 m cS1) rfl rfl (hcell3 _ hgrow3) (hfr3 _ hgrow3) (by kernel_rfl) ?_
          refine hK.out _ _ (hrng3 _ _ hgrow3) (fun hHeld => ?_)
          clear hK K
          simp only [Act.put]
          refine wpAnyH_done (by kernel_rfl) ?_ _
          have HFIN := Lib.hid (hfin gg cp w3 hown3 hgrow3 hat3 hlt3)
          clear hown3 hgrow3 hat3 hlt3 hkeep hcell3 hfr3 hrng3 hHeld hfin hst2' hst2 c1 c1' f1
          go_wp2
          go_ret
          have HZ := HE.out _ HFIN.out
          rw [← HJ0.out] at HZ
          exact HZ
end Go.Proofs.YtkmljbbnpjlehaaDoor
namespace Go.Proofs.YtkmljbbnpjlehaaDoor
set_option maxRecDepth 8000
open Go.RowKit

theorem range_blk {w : World} {a : Mm} {d : Dk.D} (h : DAt w a d) {j : Nat} (hj : j < d.n) : w.rangeAt a.k (j * 32) (bcs (Dk.blk d.kept j)) := fun q v hv => by
  have hq : q < 32 := by have := (List.getElem?_eq_some_iff.1 hv).1; rw [bcs_len, Dk.blk_len h.ok.kept hj] at this; exact this
  rw [cell_of_row w a.k (j * 32 + q) _ _ _ h.kept]
  rw [← hv]
  simp only [List.getElem?_toArray, bcs, Dk.blk, List.getElem?_map, List.getElem?_take, List.getElem?_drop]
  rw [if_pos hq, show 32 * j + q = j * 32 + q by omega]
theorem scs_get : ∀ (l : List (Nat × List UInt8)) (k : Nat) (hk : k < l.length), (∀ s ∈ l, s.2.length = 32) → ∀ (q : Nat) (v : Value), (Value.int .i64 (l[k].1 : Int) :: bcs l[k].2)[q]? = some v → (scs l)[k * 33 + q]? = some v
  | s :: r, 0, _, _, q, v, hv => by
    have e : scs (s :: r) = (.int .i64 (s.1 : Int) :: bcs s.2) ++ scs r := by simp [scs]
    rw [e, Nat.zero_mul, Nat.zero_add]
    exact (List.getElem?_append_left (List.getElem?_eq_some_iff.1 hv).1).trans hv
  | s :: r, k + 1, hk, hl, q, v, hv => by
    have ih := scs_get r k (by simpa using hk) (fun x hx => hl x (by simp [hx])) q v (by simpa using hv)
    have e : scs (s :: r) = (.int .i64 (s.1 : Int) :: bcs s.2) ++ scs r := by simp [scs]
    have hlen : (Value.int .i64 (s.1 : Int) :: bcs s.2).length = 33 := by rw [List.length_cons, bcs_len, hl s (by simp)]
    rw [e, List.getElem?_append_right (by rw [hlen]; omega), hlen, show (k + 1) * 33 + q - 33 = k * 33 + q by omega]
    exact ih
theorem range_st {w : World} {a : Mm} {d : Dk.D} (h : DAt w a d) {k : Nat} (hk : k < d.st.length) : ∃ b, a.S = some ⟨b, 0, none⟩ ∧ b < w.heap.size ∧ w.rangeAt b (k * 33) (.int .i64 (d.st[k].1 : Int) :: bcs d.st[k].2) := by
  obtain ⟨A, cap, e, _, _, hA, hblk⟩ := own_form h.st
  injection e with e1 _ _
  obtain ⟨g, hg⟩ := hA (by omega)
  rw [hg] at e1
  have hb := hblk g (by rw [hg]; simp [blkOf])
  refine ⟨g, e1, hb.2.1, fun q v hv => ?_⟩
  have := h.st.cells (g := g) (by rw [e1]; rfl) (k * 33 + q) v (scs_get d.st k hk (fun s hs => (h.ok.st s hs).2) q v hv)
  rw [Addr.add_mid, Nat.zero_add] at this
  exact this

theorem range_new (w : World) (i : Int) (l : List UInt8) : (w.alloc (.cells (cS i l) 124)).rangeAt w.heap.size 1 (bcs l) := fun q v hv => by
  rw [cell_of_row _ w.heap.size (1 + q) _ _ _ (heap_alloc_new w _)]
  rw [← hv, Nat.add_comm 1 q]
  simp [cS]
def ReadPost (w : World) (x : List UInt8) (e : Ending) (w' : World) : Prop :=
  ∃ g, e = .returned (.slice (some ⟨g, 0, none⟩) 32 32) ∧ w.heap.size ≤ g ∧ w'.heap[g]? = some (.cells (cB x) 121 (0, 0)) ∧ Below w.heap.size w w'

set_option maxHeartbeats 1600000 in
theorem read_any (w : World) (a : Mm) (d : Dk.D) (j : Nat) (h : DAt w a d) (ht : There w a) (hj : j < d.n) (hst : d.st.length ≤ 1048576) :
    Calls Tryd.prog 93 #[.pointer (some ⟨a.P, 0, none⟩), .int .i64 (j : Int)] w (ReadPost w (Dk.seen j (Dk.blk d.kept j) d.st)) := by
  have HH := has_any w a d j h
  have e1 : hasB d.n (j : Int) = true := by unfold hasB; simp; omega
  rw [e1] at HH
  obtain ⟨c0, c1, _, _⟩ := h.c
  have hn := h.ok.n
  have hj0 : (0 : Int) ≤ (j : Int) := by omega
  have hj1 : (j : Int) < (d.n : Int) := by omega
  have hR := range_blk h hj
  have HBL := Lib.hid (Dk.blk_len h.ok.kept hj)
  obtain ⟨x, hx⟩ : ∃ x, x = Dk.blk d.kept j := ⟨_, rfl⟩
  rw [← hx] at hR HBL ⊢
  clear e1 hx
  have hPl := lt_of_blk' h.disk
  have HDA := Lib.hid h
  have HTH := Lib.hid ht
  go_enter Tryd.func93, Tryd.ntmps93
  go_wp2_with fail
  refine HH.mono ?_
  rintro e w' ⟨rfl, rfl⟩
  go_wp2_with (first
    | ((with_reducible refine wpList_load_mid (op := ⟨some 18, _, _, _, _, _⟩) rfl 121 _ rfl a.k (j * 32) ?_ (bcs x) _ hR Tryd.underlying121 rfl ?_ ?_); exact rfl; exact (by rw [bcs_len, HBL.out]; exact sizeBlock))
    | (with_reducible refine wpList_alloc_z (s := 5) 121 zB zB_run ?_)
    | ((with_reducible refine wpList_store_new 121 (.tmp 5) (.tmp 18) zB (cB x) ?_ ?_ ?_ ?_ ?_ ?_); exact rfl; exact rfl; exact (by rw [cB_size, HBL.out]; exact sizeBlock); exact (by rw [cB_size, zB_size, HBL.out]); exact (cB_one _)))
  obtain ⟨g, hg⟩ : ∃ g, g = w.heap.size := ⟨_, rfl⟩
  obtain ⟨w0, hw0⟩ : ∃ w0, w0 = w.alloc (.cells (cB x) 121) := ⟨_, rfl⟩
  obtain ⟨m, hm⟩ : ∃ m, m = d.st.length := ⟨_, rfl⟩
  rw [← hg, ← hw0, ← hm]
  rw [← hm] at hst
  have HG := Lib.hid hg
  have HW0 := Lib.hid hw0
  have HM := Lib.hid hm
  clear hg hw0 hm hR c0 c1 h ht HH
  go_loopw [24] (fun iv wr => ∃ k : Nat, k ≤ m ∧ iv = .int .i64 k ∧ wr.heap[g]? = some (.cells (cB (Dk.seen j x (d.st.take k))) 121 (0, 0)) ∧ Below w.heap.size w wr) (fun iv _ => m - (intOf iv).toNat)
  case atStart => exact ⟨0, Nat.zero_le _, rfl, by rw [HW0.out, HG.out]; exact heap_alloc_new w _, by rw [HW0.out]; exact (Below.refl _ _).alloc (Nat.le_refl _) _⟩
  case round =>
    obtain ⟨k, hk, rfl, hgb, hbr⟩ := hrel
    by_cases hlt : k < m
    · have hkl : k < d.st.length := by have := HM.out; omega
      obtain ⟨b, hb, hbl, hrange⟩ := range_st HDA.out hkl
      have hrange' : wr.rangeAt b (k * 33) (.int .i64 (d.st[k].1 : Int) :: bcs d.st[k].2) := fun q v hv => (hbr.cell (p := ⟨b, k * 33 + q, none⟩) hbl).trans (hrange q v hv)
      have hl32 := (HDA.out.ok.st _ (List.getElem_mem hkl)).2
      have HSN : Hid (Dk.seen j x (d.st.take (k + 1)) = if d.st[k].1 = j then d.st[k].2 else Dk.seen j x (d.st.take k)) := Lib.hid (by rw [List.take_succ_eq_append_getElem hkl, Dk.seen_snoc])
      obtain ⟨⟨at0, y⟩, hs⟩ : ∃ s, s = d.st[k] := ⟨_, rfl⟩
      rw [← hs] at hrange' hl32 HSN
      dsimp only at hrange' hl32 HSN
      have HY := Lib.hid hl32
      obtain ⟨z, hz⟩ : ∃ z, z = Dk.seen j x (d.st.take k) := ⟨_, rfl⟩
      rw [← hz] at hgb HSN
      have HZL : Hid (z.length = 32) := Lib.hid (by rw [hz]; exact Dk.seen_ok j _ _ HBL.out (fun s hs => (HDA.out.ok.st s (List.mem_of_mem_take hs)).2))
      clear hs hl32 hrange hz hkl
      rw [hb]
      have hk0 : (0 : Int) ≤ (k : Int) := by omega
      have hkI : (k : Int) < (m : Int) := by omega
      have hc0 : (cS (at0 : Int) y)[0]? = some (.int .i64 (at0 : Int)) := rfl
      have hcs : (cS (at0 : Int) y).size = 33 := by rw [cS_size, HY.out]
      have HCS := Lib.hid hcs
      clear hcs
      have hgl : g < wr.heap.size := lt_of_blk' hgb
      have HGB := Lib.hid hgb
      clear hgb hb
      by_cases he : at0 = j
      · subst he
        rw [if_pos rfl] at HSN
        go_wp2_with (first
          | ((with_reducible refine wpList_load_mid (op := ⟨some 27, _, _, _, _, _⟩) rfl 124 _ rfl b (k * 33) ?_ (.int .i64 (at0 : Int) :: bcs y) _ hrange' Tryd.underlying124 rfl ?_ ?_); exact rfl; exact (by rw [List.length_cons, bcs_len, HY.out]; exact sizeStaged))
          | (with_reducible refine wpList_alloc_z (s := 7) 124 zS zS_run ?_)
          | ((with_reducible refine wpList_store_new 124 (.tmp 7) (.tmp 27) zS (cS at0 y) ?_ ?_ ?_ ?_ ?_ ?_); exact rfl; exact rfl; exact (by rw [HCS.out]; exact sizeStaged); exact (by rw [HCS.out]; rfl); exact (cS_one _ _))
          | ((with_reducible refine wpList_load_mid (op := ⟨some 33, _, _, _, _, _⟩) rfl 121 _ rfl wr.heap.size 1 ?_ (bcs y) _ (range_new wr at0 y) Tryd.underlying121 rfl ?_ ?_); exact rfl; exact (by rw [bcs_len, HY.out]; exact sizeBlock))
          | ((with_reducible refine wpList_store_rowTo rfl 121 (.tmp 5) (.tmp 33) rfl rfl g (cB y) ?_ ?_ 121 (cB z) ?_ ?_ ?_ (cB_one _) ?_); exact rfl; exact rfl; exact ((Below.heap_alloc wr _ g hgl).trans HGB.out); exact (by rw [cB_size, HY.out]; exact sizeBlock); exact (by rw [cB_size, cB_size, HY.out, HZL.out])))
        go_roundw
        case rel =>
          refine ⟨k + 1, by omega, by go_num, ?_, ?_⟩
          · rw [HSN.out]
            exact setRow_heap _ g _ _ _ _ ((Below.heap_alloc wr _ g hgl).trans HGB.out)
          · exact below_setRow (hbr.alloc hbr.size _) (by rw [HG.out]; exact Nat.le_refl _) _
        case measure => simp [intOf]; omega
      · rw [if_neg he] at HSN
        have he1 : ((at0 : Int) == (j : Int)) = false := by simp; omega
        have he3 : ¬ (at0 : Int) = (j : Int) := by omega
        go_wp2_with (first
          | ((with_reducible refine wpList_load_mid (op := ⟨some 27, _, _, _, _, _⟩) rfl 124 _ rfl b (k * 33) ?_ (.int .i64 (at0 : Int) :: bcs y) _ hrange' Tryd.underlying124 rfl ?_ ?_); exact rfl; exact (by rw [List.length_cons, bcs_len, HY.out]; exact sizeStaged))
          | (with_reducible refine wpList_alloc_z (s := 7) 124 zS zS_run ?_)
          | ((with_reducible refine wpList_store_new 124 (.tmp 7) (.tmp 27) zS (cS at0 y) ?_ ?_ ?_ ?_ ?_ ?_); exact rfl; exact rfl; exact (by rw [HCS.out]; exact sizeStaged); exact (by rw [HCS.out]; rfl); exact (cS_one _ _)))
        go_roundw
        case rel =>
          refine ⟨k + 1, by omega, by go_num, ?_, hbr.alloc hbr.size _⟩
          rw [HSN.out]
          exact (Below.heap_alloc wr _ g hgl).trans HGB.out
        case measure => simp [intOf]; omega
    · have hkI : ¬ (k : Int) < (m : Int) := by omega
      have HE : Hid (wr.heap[g]? = some (.cells (cB (Dk.seen j x d.st)) 121 (0, 0))) := Lib.hid (by
        have := HM.out
        rw [List.take_of_length_le (by omega)] at hgb
        exact hgb)
      clear hgb
      go_wp2_with fail
      go_ret
      exact ⟨g, rfl, by rw [HG.out]; exact Nat.le_refl _, HE.out, hbr⟩

set_option maxHeartbeats 800000 in
theorem read_none (w : World) (a : Mm) (d : Dk.D) (i : Int) (h : DAt w a d) (hi : i < 0 ∨ (d.n : Int) ≤ i) :
    Calls Tryd.prog 93 #[.pointer (some ⟨a.P, 0, none⟩), .int .i64 i] w fun e w' => e = .returned (.slice none 0 0) ∧ w = w' := by
  have HH := has_any w a d i h
  have e1 : hasB d.n i = false := by unfold hasB; simp; omega
  rw [e1] at HH
  clear e1
  go_enter Tryd.func93, Tryd.ntmps93
  go_wp2_with fail
  refine HH.mono ?_
  rintro e w' ⟨rfl, rfl⟩
  go_wp2_with fail
  go_ret
  exact ⟨rfl, rfl⟩

/-- A row of bytes of the call's own. -/
def ByRow (base : Nat) (w : World) (e : Ending) (l : List UInt8) : Prop := ∃ A cap, e = .returned (.slice A l.length cap) ∧ w.ownsRow base 5 1 (.slice A l.length cap) l.length (bcs l)
def BytesPost (w : World) (l : List UInt8) (e : Ending) (w' : World) : Prop := ByRow w.heap.size w' e l ∧ Below w.heap.size w w'
theorem take_blk {k : List UInt8} {n : Nat} (j : Nat) (_hk : k.length = 32 * n) (_hj : j < n) : k.take (32 * j) ++ Dk.blk k j = k.take (32 * (j + 1)) := by
  unfold Dk.blk
  rw [show 32 * (j + 1) = 32 * j + 32 by omega, List.take_add]

set_option maxHeartbeats 1600000 in
theorem bytes_any (w : World) (a : Mm) (d : Dk.D) (h : DAt w a d) (_ht : There w a) :
    Calls Tryd.prog 31 #[.pointer (some ⟨a.P, 0, none⟩)] w (BytesPost w d.kept) := by
  obtain ⟨i0, hi0, hz0, hz1, hz2⟩ := info_parts Tryd.infoByte
  obtain ⟨c0, _, _, _⟩ := h.c
  have hn := h.ok.n
  have hPl := lt_of_blk' h.disk
  have HDA := Lib.hid h
  obtain ⟨n, hnn⟩ : ∃ n, n = d.n := ⟨_, rfl⟩
  rw [← hnn] at c0 hn
  have HN := Lib.hid hnn
  clear hnn
  obtain ⟨w1, hmk, hown1, hgrow1⟩ := run_make_own (P := Tryd.prog) w w.heap.size 36 5 i0 _ 1 Tryd.underlying36 hi0 hz0 hz1 .i64 .i64 (n * 32) (by rw [hz2]; omega) (by unfold maxLen; omega) (Nat.le_refl _)
  rw [show ((n * 32 : Nat) : Int) = (n : Int) * 32 by omega] at hmk
  have hb1 : Below w.heap.size w w1 := (Below.refl _ _).grown hgrow1 (Nat.le_refl _) (fun _ hq => by cases hq)
  have c01 : w1.cell? ⟨a.P, 0, none⟩ = some (.slice (some ⟨a.k, 0, none⟩) n n) := (hb1.cell (p := ⟨a.P, 0, none⟩) hPl).trans c0
  have hn0 : (0 : Int) ≤ (n : Int) := by omega
  have hn1 : (n : Int) ≤ 512 := by omega
  have HB1 := Lib.hid hb1
  have HOWN1 := Lib.hid hown1
  clear hb1 hown1 hgrow1 h
  go_enter Tryd.func31, Tryd.ntmps31
  go_wp2_with fail
  clear hmk c0
  obtain ⟨g0, hg0⟩ : ∃ g0, g0 = w.heap.size := ⟨_, rfl⟩
  rw [← hg0]
  have HG0 := Lib.hid hg0
  clear hg0
  go_loopw [3, 18] (fun ov iv wr => ∃ (k : Nat) (A : Option Addr) (cap : Nat), k ≤ n ∧ iv = .int .i64 k ∧ ov = .slice A (32 * k) cap ∧ wr.ownsRow w.heap.size 5 1 ov (32 * k) (bcs (d.kept.take (32 * k))) ∧ Below w.heap.size w wr) (fun _ iv _ => n - (intOf iv).toNat)
  case atStart => exact ⟨0, some ⟨g0, 0, none⟩, n * 32, Nat.zero_le _, rfl, rfl, by rw [HG0.out]; exact HOWN1.out, HB1.out⟩
  case round =>
    obtain ⟨k, A, cap, hk, rfl, rfl, hown, hbr⟩ := hrel
    by_cases hlt : k < n
    · have hjn : k < d.n := by have := HN.out; omega
      have hkl : a.k < w.heap.size := lt_of_blk' HDA.out.kept
      have hR : wr.rangeAt a.k (k * 32) (bcs (Dk.blk d.kept k)) := fun q v hv => (hbr.cell (p := ⟨a.k, k * 32 + q, none⟩) hkl).trans (range_blk HDA.out hjn q v hv)
      have HBL := Lib.hid (Dk.blk_len HDA.out.ok.kept hjn)
      have HTK := Lib.hid (take_blk k HDA.out.ok.kept hjn)
      obtain ⟨x, hx⟩ : ∃ x, x = Dk.blk d.kept k := ⟨_, rfl⟩
      rw [← hx] at hR HBL HTK
      clear hx
      have hk0 : (0 : Int) ≤ (k : Int) := by omega
      have hkI : (k : Int) < (n : Int) := by omega
      obtain ⟨pre, hpre⟩ : ∃ pre, pre = bcs (d.kept.take (32 * k)) := ⟨_, rfl⟩
      rw [← hpre] at hown
      have HPRE := Lib.hid hpre
      clear hpre hjn
      obtain ⟨m, hm⟩ : ∃ m, m = 32 * k := ⟨_, rfl⟩
      rw [← hm] at hown ⊢
      have hm63 : m + 32 ≤ maxLen := by unfold maxLen; omega
      have hm64 : (m + 32) * 1 ≤ 140737488355328 := by omega
      have HM := Lib.hid hm
      clear hm
      have hbk := hbr.size
      have HOWN := Lib.hid hown
      clear hown
      go_wp2_with (first
        | ((with_reducible refine wpList_load_mid (op := ⟨some 21, _, _, _, _, _⟩) rfl 121 _ rfl a.k (k * 32) ?_ (bcs x) _ hR Tryd.underlying121 rfl ?_ ?_); exact rfl; exact (by rw [bcs_len, HBL.out]; exact sizeBlock))
        | (with_reducible refine wpList_alloc_z (s := 5) 121 zB zB_run ?_)
        | ((with_reducible refine wpList_store_new 121 (.tmp 5) (.tmp 21) zB (cB x) ?_ ?_ ?_ ?_ ?_ ?_); exact rfl; exact rfl; exact (by rw [cB_size, HBL.out]; exact sizeBlock); exact (by rw [cB_size, zB_size, HBL.out]); exact (cB_one _))
        | ((with_reducible refine wpList_append_gen (o := ⟨some 24, _, _, _, _, _⟩) rfl (.tmp 22) (.tmp 23) 36 rfl w.heap.size 5 i0 (.int .u8 0) 1 1 Tryd.underlying36 hi0 hz0 hz1 hz2 rfl ?_ (.slice A m cap) m pre ?_ ?_ (some ⟨wr.heap.size, 0, none⟩) 32 32 (bcs x) ?_ ?_ ?_ (bcs_one x) hm63 hm64 ?_ ?_); exact (by omega); exact rfl; exact (HOWN.out.alloc _); exact rfl; exact (by rw [bcs_len, HBL.out]); exact (fun _ => ⟨_, rfl, World.news_of_block (heap_alloc_new wr _)⟩); exact (by simp; omega); intro v2 w2 hown2 hgrow2 hat2; obtain ⟨A2, cap2, rfl, _, _, _, _⟩ := own_form hown2; clear hat2))
      have hx32 : m + 32 = 32 * (k + 1) := by have := HM.out; omega
      refine ⟨⟨k + 1, A2, cap2, by omega, by go_num, by rw [hx32], ?_, ?_⟩, by simp [intOf]; omega⟩
      · have e : bcs (d.kept.take (32 * (k + 1))) = pre ++ bcs x := by rw [← HTK.out, HPRE.out]; simp [bcs]
        rw [e, ← hx32]
        exact hown2
      · exact (hbr.alloc hbk _).grown hgrow2 (by simp; omega) (fun q hq => (World.ownsRow.lt HOWN.out q hq).1)
    · have hkI : ¬ (k : Int) < (n : Int) := by omega
      have hlen : d.kept.length = 32 * k := by rw [HDA.out.ok.kept, ← HN.out]; omega
      have HE : Hid (BytesPost w d.kept (.returned (.slice A (32 * k) cap)) wr) := Lib.hid (by
        rw [← hlen, List.take_of_length_le (Nat.le_refl _)] at hown
        refine ⟨⟨A, cap, by rw [hlen], hown⟩, hbr⟩)
      clear hown hlen
      go_wp2_with fail
      go_ret
      exact HE.out
end Go.Proofs.YtkmljbbnpjlehaaDoor
