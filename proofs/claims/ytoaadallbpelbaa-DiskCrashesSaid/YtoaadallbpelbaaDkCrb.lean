/- What the statement on crashes answers at things that are looked at: true. No condition. -/
import Derived.Test.YtoaadallbpelbaaDkCra
namespace Go.Proofs.Ytoaadallbpelbaa
set_option maxRecDepth 8000
open Go.RowKit

theorem rep_set (q x : Nat) (hx : x < q) : (bcs (List.replicate x 32 ++ List.replicate (q - x) 0)).toArray.setIfInBounds x (.int .u8 32) = (bcs (List.replicate (x + 1) 32 ++ List.replicate (q - (x + 1)) 0)).toArray := by
  have e1 : List.replicate (q - x) (0 : UInt8) = 0 :: List.replicate (q - (x + 1)) 0 := by rw [show q - x = (q - (x + 1)) + 1 by omega]; rfl
  have e2 : List.replicate (x + 1) (32 : UInt8) = List.replicate x 32 ++ [32] := List.replicate_succ'
  rw [e1, e2, List.setIfInBounds_toArray]
  congr 1
  simp only [bcs, List.map_append, List.map_cons, List.map_replicate, List.map_nil]
  rw [List.set_append_right _ _ (by simp), List.length_replicate, Nat.sub_self, List.set_cons_zero, List.append_assoc]
  rfl

set_option maxHeartbeats 6400000 in
theorem crashes_in (w : World) (bl : Int) (Al C : Option Addr) (cl cc : Nat) (l : List Dk.O) (cuts : List UInt8) (hO : OpsIn w w.heap.size Al l) (hll : l.length ≤ 9223372036854775807) (hC : BInB w w.heap.size C cuts) (lc : cuts.length ≤ 9223372036854775807) (hf : Dk.fewB l = true) (h40 : ¬ 40 < bl) (h100 : ¬ 100 < cuts.length) :
    Calls Try.prog 5 #[.int .i64 bl, .slice Al l.length cl, .slice C cuts.length cc] w (AwakePost w) := by
  have hl2 : ¬ (100 : Int) < (cuts.length : Int) := by omega
  obtain ⟨n, hn⟩ : ∃ n, n = l.length := ⟨_, rfl⟩
  have hFew0 : ∀ w1, Below w.heap.size w w1 → Calls Try.prog 10 #[.slice Al n cl] w1 fun e w' => e = .returned (.bool true) ∧ w1 = w' := fun w1 hb1 => by
    have := few_any w1 w.heap.size Al cl l (hO.keep hb1) hll
    rw [hf] at this
    rw [hn]
    exact this
  obtain ⟨d, hd⟩ : ∃ d, d = Dk.run (Dk.new bl) l := ⟨_, rfl⟩
  have hst : d.st.length ≤ 40 := by rw [hd]; exact behind_st bl l hf
  have HBEH : Hid (∀ w1, Below w.heap.size w w1 → Calls Try.prog 29 #[.int .i64 bl, .slice Al n cl] w1 fun e w' => ∃ P, e = .returned (.pointer (some ⟨P, 0, none⟩)) ∧ HD (fun x => w1.heap.size ≤ x ∧ x < w'.heap.size) w' P d ∧ Below w1.heap.size w1 w') := Lib.hid (fun w1 hb1 => by
    have := behind_any w1 w.heap.size bl Al cl l (hO.keep hb1) hb1.size hf
    rw [← hd] at this
    rw [hn]
    refine this.mono ?_
    rintro e w' ⟨P, rfl, h1, h2⟩
    exact ⟨P, rfl, h1.hd, h2⟩)
  rw [← hn]
  clear hn hd hO hll hf
  have HC := Lib.hid hC
  obtain ⟨nc, hnc⟩ : ∃ nc, nc = cuts.length := ⟨_, rfl⟩
  rw [← hnc] at hl2 ⊢
  have HNC := Lib.hid hnc
  clear hC hnc h100
  go_enter Try.func5, Try.ntmps5
  go_wp2_with fail
  refine (awake_any w).mono ?_
  rintro e w1 ⟨rfl, hb1⟩
  go_wp2_with fail
  refine (hFew0 w1 hb1).mono ?_
  rintro e w' ⟨rfl, rfl⟩
  clear hFew0
  have HB1 := Lib.hid hb1
  clear hb1
  go_wp2_with fail
  refine (HBEH.out w1 HB1.out).mono ?_
  rintro e w2 ⟨P1, rfl, h1, hb2⟩
  have HB2 := Lib.hid (HB1.out.trans (hb2.mono HB1.out.size))
  have H12 := Lib.hid h1
  have Z12 := Lib.hid hb2.size
  clear h1 hb2
  go_wp2_with fail
  refine (HBEH.out w2 HB2.out).mono ?_
  rintro e w3 ⟨P2, rfl, h2, hb3⟩
  have HB3 := Lib.hid (HB2.out.trans (hb3.mono HB2.out.size))
  have H13 := Lib.hid (H12.out.keep hb3)
  have H23 := Lib.hid h2
  have Z23 := Lib.hid hb3.size
  clear h2 hb3 H12
  go_wp2_with fail
  refine (HBEH.out w3 HB3.out).mono ?_
  rintro e w4 ⟨P3, rfl, h3, hb4⟩
  have HB4 := Lib.hid (HB3.out.trans (hb4.mono HB3.out.size))
  have H14 := Lib.hid (H13.out.keep hb4)
  have H24 := Lib.hid (H23.out.keep hb4)
  have H34 := Lib.hid h3
  have Z34 := Lib.hid hb4.size
  clear h3 hb4 H13 H23
  go_wp2_with fail
  refine (HBEH.out w4 HB4.out).mono ?_
  rintro e w5 ⟨P4, rfl, h4, hb5⟩
  have HB5 := Lib.hid (HB4.out.trans (hb5.mono HB4.out.size))
  have H1 := Lib.hid (H14.out.keep hb5)
  have H2 := Lib.hid (H24.out.keep hb5)
  have H3 := Lib.hid (H34.out.keep hb5)
  have H4 := Lib.hid h4
  have Z45 := Lib.hid hb5.size
  clear h4 hb5 H14 H24 H34 HBEH
  obtain ⟨s1, hs1⟩ : ∃ s, s = w1.heap.size := ⟨_, rfl⟩
  obtain ⟨s2, hs2⟩ : ∃ s, s = w2.heap.size := ⟨_, rfl⟩
  obtain ⟨s3, hs3⟩ : ∃ s, s = w3.heap.size := ⟨_, rfl⟩
  obtain ⟨s4, hs4⟩ : ∃ s, s = w4.heap.size := ⟨_, rfl⟩
  obtain ⟨s5, hs5⟩ : ∃ s, s = w5.heap.size := ⟨_, rfl⟩
  have HS : Hid (w.heap.size ≤ s1 ∧ s1 ≤ s2 ∧ s2 ≤ s3 ∧ s3 ≤ s4 ∧ s4 ≤ s5) := Lib.hid (by rw [hs1, hs2, hs3, hs4, hs5]; exact ⟨HB1.out.size, Z12.out, Z23.out, Z34.out, Z45.out⟩)
  rw [← hs1, ← hs2] at H1
  rw [← hs2, ← hs3] at H2
  rw [← hs3, ← hs4] at H3
  rw [← hs4, ← hs5] at H4
  have HS5 := Lib.hid hs5
  clear hs1 hs2 hs3 hs4 hs5 HB1 HB2 HB3 HB4 Z12 Z23 Z34 Z45
  go_wp2_with fail
  have hBy := bytes_sd H1.out.sd
  obtain ⟨L, hL⟩ : ∃ L, L = d.kept.length := ⟨_, rfl⟩
  obtain ⟨m, hm⟩ : ∃ m, m = d.n := ⟨_, rfl⟩
  have hLm : L = 32 * m := by rw [hL, hm]; exact H1.out.ok.kept
  have hm512 : m ≤ 512 := by rw [hm]; exact H1.out.ok.n
  have HL := Lib.hid hL
  have HM := Lib.hid hm
  have HLM := Lib.hid hLm
  clear hL hm hLm
  refine hBy.mono ?_
  rintro e w6 ⟨⟨A6, c6, rfl, hown6⟩, hb6⟩
  rw [← HL.out]
  obtain ⟨s6, hs6⟩ : ∃ s, s = w6.heap.size := ⟨_, rfl⟩
  have HW6 : Hid (BI s5 s6 w6 A6 d.kept) := Lib.hid (by rw [HS5.out, hs6]; exact own_bi hown6)
  have HS6 := Lib.hid hs6
  have Z56 : Hid (s5 ≤ s6) := Lib.hid (by rw [HS5.out, hs6]; exact hb6.size)
  have H16 := Lib.hid (H1.out.keep hb6)
  have H26 := Lib.hid (H2.out.keep hb6)
  have H36 := Lib.hid (H3.out.keep hb6)
  have H46 := Lib.hid (H4.out.keep hb6)
  have HB6 := Lib.hid (HB5.out.trans (hb6.mono HB5.out.size))
  clear hBy hown6 hb6 hs6 H1 H2 H3 H4 HB5
  obtain ⟨i1, hi1, hz3, hz4, hz5⟩ := info_parts Try.infoBytes
  go_wp2_with fail
  go_loopw [14, 15] (fun sv iv wr => ∃ (k : Nat) (gs : List Nat) (A : Option Addr) (cap : Nat), k ≤ m ∧ iv = .int .i64 k ∧ sv = .slice A k cap ∧ gs.length = k ∧ wr.ownsRow s6 29 1 sv k (gs.map slv) ∧ SeenAt wr s6 gs (fun i => Dk.seen i (Dk.blk d.kept i) d.st) ∧ Below w6.heap.size w6 wr) (fun _ iv _ => m - (intOf iv).toNat)
  case atStart => exact ⟨0, [], none, 0, Nat.zero_le _, rfl, rfl, rfl, World.ownsRow_nil _ _ _ _, fun i hi => absurd hi (by simp), Below.refl _ _⟩
  case round =>
    obtain ⟨k, gs, A, cap, hk, rfl, rfl, hgl, hown, hseen, hbr⟩ := hrel
    have hLn := len_sd (H16.out.keep hbr).sd
    rw [← HM.out] at hLn
    go_wp2_with fail
    refine hLn.mono ?_
    rintro e w' ⟨rfl, rfl⟩
    clear hLn
    by_cases hlt : k < m
    · have hkI : (k : Int) < (m : Int) := by omega
      have hRd := read_sd (H16.out.keep hbr).sd (by omega) k (by rw [← HM.out]; exact hlt)
      have HOWN := Lib.hid hown
      have HSE := Lib.hid hseen
      have HBR := Lib.hid hbr
      have HGL := Lib.hid hgl
      clear hown hseen hbr hgl
      go_wp2_with fail
      refine hRd.mono ?_
      rintro e w7 ⟨g, rfl, hg, hgb, hb7⟩
      have HG := Lib.hid hgb
      have HG0 := Lib.hid hg
      have HB7 := Lib.hid (HBR.out.trans (hb7.mono HBR.out.size))
      have HO7 : Hid (w7.ownsRow s6 29 1 (.slice A k cap) k (gs.map slv)) := Lib.hid (own_block HOWN.out (fun b hb => hb7.block b (by obtain ⟨_, _, e, _, _, _, hblk⟩ := own_form HOWN.out; injection e with e _ _; rw [e] at hb; exact (hblk b hb).2.1)))
      have HSE7 : Hid (SeenAt w7 s6 gs (fun i => Dk.seen i (Dk.blk d.kept i) d.st)) := Lib.hid (HSE.out.out (F := fun _ => False) (OutP.of hb7) (fun _ _ _ h => h))
      have HZ7 : Hid (s6 ≤ wr.heap.size ∧ wr.heap.size ≤ w7.heap.size) := Lib.hid (by rw [HS6.out]; exact ⟨HBR.out.size, hb7.size⟩)
      clear hRd hg hgb hb7 HOWN HSE HBR
      go_wp2_with (first
        | ((with_reducible refine wpList_append_gen (o := ⟨some 77, _, _, _, _, _⟩) rfl (.tmp 72) (.tmp 76) 51 rfl s6 29 i1 (.slice none 0 0) 1 24 Try.underlying51 hi1 hz3 hz4 hz5 rfl ?_ (.slice A k cap) k (gs.map slv) ?_ ?_ (some ⟨w7.heap.size, 0, none⟩) 1 1 [slv g] ?_ ?_ ?_ ?_ ?_ ?_ ?_ ?_); exact (by omega); exact rfl; exact (HO7.out.alloc _); exact rfl; exact rfl; exact (fun _ => ⟨_, rfl, World.news_of_block (heap_alloc_new w7 _)⟩); exact (fun u hu => by rw [List.mem_singleton] at hu; subst hu; rfl); exact (by unfold maxLen; omega); exact (by omega); exact (by have := HZ7.out; simp; omega); intro v2 w2 hown2 hgrow2 hat2; obtain ⟨A2, cap2, rfl, _, _, _, _⟩ := own_form hown2; clear hat2))
      have HB2 := Lib.hid (hgrow2)
      have HO2 := Lib.hid hown2
      clear hgrow2 hown2
      go_roundw
      case rel =>
        have hb2 : Below w6.heap.size w6 w2 := (HB7.out.alloc HB7.out.size _).grown HB2.out (by rw [← HS6.out]; exact Nat.le_trans HZ7.out.1 (Nat.le_trans HZ7.out.2 (by simp))) (fun q hq => by rw [← HS6.out]; exact (World.ownsRow.lt HO7.out q hq).1)
        refine ⟨k + 1, gs ++ [g], A2, cap2, by omega, by go_num, rfl, by rw [List.length_append, HGL.out]; rfl, by rw [List.map_append]; exact HO2.out, ?_, hb2⟩
        have h8 : ∀ x, x < w7.heap.size → (∃ c, w7.heap[x]? = some (.cells c 66 (0, 0))) → w2.heap[x]? = w7.heap[x]? := fun x hx ⟨c, hc⟩ => by
          rw [HB2.out.block x (by simp; omega) (fun e => by
            obtain ⟨_, _, e2, _, _, _, hblk⟩ := own_form HO7.out
            injection e2 with e2 _ _
            have hm : x ∈ blkOf A := by
              rcases A with _ | ad
              · cases e
              · obtain ⟨b0, o0, sp0⟩ := ad
                simp [Value.ownBlock] at e
                simp [blkOf]
                omega
            rw [e2] at hm
            obtain ⟨_, _, cur, hcur⟩ := hblk x hm
            rw [hc] at hcur
            simp at hcur)]
          exact Below.heap_alloc w7 _ x hx
        intro i hi
        by_cases hik : i < gs.length
        · obtain ⟨q1, q2⟩ := HSE7.out i hik
          rw [List.getElem_append_left hik]
          exact ⟨q1, (h8 _ (lt_of_blk' q2) ⟨_, q2⟩).trans q2⟩
        · have hi2 : i = gs.length := by rw [List.length_append] at hi; simp at hi; omega
          subst hi2
          rw [List.getElem_append_right (Nat.le_refl _)]
          simp only [Nat.sub_self, List.getElem_cons_zero]
          rw [HGL.out]
          exact ⟨Nat.le_trans HZ7.out.1 HG0.out, (h8 _ (lt_of_blk' HG.out) ⟨_, HG.out⟩).trans HG.out⟩
      case measure => simp [intOf]; omega
    · have hkI : ¬ (k : Int) < (m : Int) := by omega
      have hkm : k = m := by omega
      have HKM := Lib.hid hkm
      have HGL := Lib.hid hgl
      -- the row of blocks that were read
      have HROW : Hid (0 < k → ∃ gA, A = some ⟨gA, 0, none⟩ ∧ s6 ≤ gA ∧ gA < wr.heap.size ∧ ∀ i (h : i < gs.length), wr.cell? ⟨gA, i, none⟩ = some (slv gs[i])) := Lib.hid (fun hk0 => by
        obtain ⟨A', cap', e, _, _, hA, hblk⟩ := own_form hown
        injection e with e _ _
        obtain ⟨gA, hgA⟩ := hA hk0
        rw [hgA] at e
        have hb := hblk gA (by rw [hgA]; simp [blkOf])
        refine ⟨gA, e, hb.1, hb.2.1, fun i hi => ?_⟩
        have := hown.cells (g := gA) (by rw [e]; rfl) i (slv gs[i]) (by simp [hi])
        rw [Addr.add_mid, Nat.zero_add] at this
        exact this)
      have HSE := Lib.hid hseen
      have ZR : Hid (s6 ≤ wr.heap.size) := Lib.hid (by rw [HS6.out]; exact hbr.size)
      have H1r := Lib.hid (H16.out.keep hbr)
      have H2r := Lib.hid (H26.out.keep hbr)
      have H3r := Lib.hid (H36.out.keep hbr)
      have H4r := Lib.hid (H46.out.keep hbr)
      have HWr := Lib.hid (HW6.out.keep hbr)
      have HBr := Lib.hid (HB6.out.trans (hbr.mono HB6.out.size))
      clear hown hseen hbr hk hlt H16 H26 H36 H46 HW6 HB6 hkm hgl
      have hSg := staged_sd H1r.out.sd
      obtain ⟨q, hq⟩ : ∃ q, q = d.st.length := ⟨_, rfl⟩
      rw [← hq] at hSg hst
      have HQ := Lib.hid hq
      clear hq
      go_wp2_with fail
      refine hSg.mono ?_
      rintro e w' ⟨rfl, rfl⟩
      clear hSg
      have hCr := crash_hd H1r.out (by rw [← HQ.out]; omega) C cc cuts lc ((HC.out.keep HBr.out).bin HBr.out.size) (fun hn ad e => by
        obtain ⟨b, off, e2, hlt, _⟩ := HC.out (by rw [← HNC.out]; rw [← HNC.out] at hn; exact hn)
        rw [e] at e2
        injection e2 with e2
        rw [e2]
        have := HS.out
        dsimp only
        omega)
      rw [← HNC.out] at hCr
      go_wp2_with fail
      refine hCr.mono ?_
      rintro e w10 ⟨rfl, h1, ho10⟩
      have H2s := Lib.hid (H2r.out.out ho10 (fun x _ h h' => by have := HS.out; omega))
      have H3s := Lib.hid (H3r.out.out ho10 (fun x _ h h' => by have := HS.out; omega))
      have H4s := Lib.hid (H4r.out.out ho10 (fun x _ h h' => by have := HS.out; omega))
      have HWs := Lib.hid (HWr.out.out ho10 (fun x h _ h' => by have := HS.out; omega))
      have HSEs := Lib.hid (HSE.out.out ho10 (fun x h _ h' => by have := HS.out; have := Z56.out; omega))
      have HBs := Lib.hid (HBr.out.trans (ho10.below (base := w.heap.size) (fun x h => by have := HS.out; omega) HBr.out.size))
      have HROWs : Hid (0 < k → ∃ gA, A = some ⟨gA, 0, none⟩ ∧ s6 ≤ gA ∧ gA < w10.heap.size ∧ ∀ i (h : i < gs.length), w10.cell? ⟨gA, i, none⟩ = some (slv gs[i])) := Lib.hid (fun hk0 => by
        obtain ⟨gA, e, h1, h2, h3⟩ := HROW.out hk0
        exact ⟨gA, e, h1, Nat.lt_of_lt_of_le h2 ho10.size, fun i hi => (World.cell?_of_block (w := wr) (w' := w10) (a := ⟨gA, i, none⟩) (ho10.block gA h2 (fun h' => by have := HS.out; have := Z56.out; omega))).trans (h3 i hi)⟩)
      have ZS : Hid (s6 ≤ w10.heap.size) := Lib.hid (Nat.le_trans ZR.out ho10.size)
      have H1s := Lib.hid h1
      clear hCr h1 ho10 H1r H2r H3r H4r HWr HSE HBr HROW ZR
      obtain ⟨kq, hkq⟩ : ∃ kq, kq = (d.crash cuts).kept := ⟨_, rfl⟩
      have HKQL : Hid (kq.length = L) := Lib.hid (by rw [hkq, H1s.out.ok.kept, HLM.out, HM.out]; rfl)
      have HONE : Hid (q ≤ 1 → ∀ x, kq[x]? = d.kept[x]? ∨ kq[x]? = (Dk.seen (x / 32) (Dk.blk d.kept (x / 32)) d.st)[x % 32]?) := Lib.hid (fun h x => by
        rw [hkq]
        exact Dk.crash_one H4s.out.ok (by rw [← HQ.out]; exact h) cuts x)
      have hBy := bytes_sd H1s.out.sd
      rw [← hkq] at hBy
      clear hkq
      go_wp2_with fail
      refine hBy.mono ?_
      rintro e w11 ⟨⟨A11, c11, rfl, hown11⟩, hb11⟩
      have HNOW : Hid (0 < L → ∃ g, A11 = some ⟨g, 0, none⟩ ∧ g < w11.heap.size ∧ ∀ x (hx : x < kq.length), w11.cell? ⟨g, x, none⟩ = some (B kq[x])) := Lib.hid (fun h => by
        obtain ⟨g, e, h1, _, h2⟩ := own_cell hown11 (by rw [HKQL.out]; exact h)
        exact ⟨g, e, h1, h2⟩)
      have H1t := Lib.hid (H1s.out.keep hb11)
      have H2t := Lib.hid (H2s.out.keep hb11)
      have H3t := Lib.hid (H3s.out.keep hb11)
      have H4t := Lib.hid (H4s.out.keep hb11)
      have HWt := Lib.hid (HWs.out.keep hb11)
      have HSEt := Lib.hid (HSEs.out.out (F := fun _ => False) (OutP.of hb11) (fun _ _ _ h => h))
      have HBt := Lib.hid (HBs.out.trans (hb11.mono HBs.out.size))
      have HROWt : Hid (0 < k → ∃ gA, A = some ⟨gA, 0, none⟩ ∧ gA < w11.heap.size ∧ ∀ i (h : i < gs.length), w11.cell? ⟨gA, i, none⟩ = some (slv gs[i])) := Lib.hid (fun hk0 => by
        obtain ⟨gA, e, h1, h2, h3⟩ := HROWs.out hk0
        exact ⟨gA, e, Nat.lt_of_lt_of_le h2 hb11.size, fun i hi => (hb11.cell (p := ⟨gA, i, none⟩) h2).trans (h3 i hi)⟩)
      have ZT : Hid (s6 ≤ w11.heap.size) := Lib.hid (Nat.le_trans ZS.out hb11.size)
      rw [HKQL.out]
      clear hBy hown11 hb11 H1s H2s H3s H4s HWs HSEs HBs HROWs ZS
      have hSg := staged_sd H1t.out.sd
      have hs0 : (d.crash cuts).st.length = 0 := rfl
      rw [hs0] at hSg
      clear hs0
      have hLne : ((L : Int) != (L : Int)) = false := by simp
      have hLb : L ≤ 16384 := by have := HLM.out; omega
      go_upto_if 96 with (first | (go_at_call 20; refine hSg.mono ?_; rintro e w' ⟨rfl, rfl⟩))
      clear hSg
      go_cut [18] (fun _ wx => Below w11.heap.size w11 wx)
      case first =>
        by_cases hq1 : q ≤ 1
        · have hqI : (q : Int) ≤ 1 := by omega
          have hON := HONE.out hq1
          have HON := Lib.hid hON
          clear hON HONE
          go_wp2_with fail
          go_loopw [18] (fun iv wr => ∃ x : Nat, x ≤ L ∧ iv = .int .i64 x ∧ Below w11.heap.size w11 wr) (fun iv _ => L - (intOf iv).toNat)
          case atStart => exact ⟨0, Nat.zero_le _, rfl, Below.refl _ _⟩
          case round =>
            obtain ⟨x, hx, rfl, hbr⟩ := hrel
            by_cases hxl : x < L
            · have hx0 : (0 : Int) ≤ (x : Int) := by omega
              have hxI : (x : Int) < (L : Int) := by omega
              obtain ⟨g8, rfl, hg8, hc8⟩ := HNOW.out (by omega)
              have hxq : x < kq.length := by rw [HKQL.out]; exact hxl
              have hxp : x < d.kept.length := by rw [← HL.out]; exact hxl
              obtain ⟨g6, o6, rfl, _, _, hg6, hc6⟩ := HWt.out (by omega)
              have n1 : wr.cell? ⟨g8, x, none⟩ = some (B kq[x]) := by rw [hbr.cell (p := ⟨g8, x, none⟩) hg8]; exact hc8 x hxq
              have n2 : wr.cell? ⟨g6, o6 + x, none⟩ = some (B d.kept[x]) := by rw [hbr.cell (p := ⟨g6, o6 + x, none⟩) hg6]; exact hc6 x hxp
              have h12 := HON.out x
              rw [List.getElem?_eq_getElem hxq, List.getElem?_eq_getElem hxp] at h12
              obtain ⟨y, hy⟩ : ∃ y, y = kq[x] := ⟨_, rfl⟩
              obtain ⟨z, hz⟩ : ∃ z, z = d.kept[x] := ⟨_, rfl⟩
              rw [← hy] at n1 h12
              rw [← hz] at n2 h12
              obtain ⟨yn, hyn⟩ : ∃ yn, yn = y.toNat := ⟨_, rfl⟩
              obtain ⟨zn, hzn⟩ : ∃ zn, zn = z.toNat := ⟨_, rfl⟩
              unfold B at n1 n2
              rw [← hyn] at n1
              rw [← hzn] at n2
              clear hc8 hc6 hy hz
              by_cases hyz : y = z
              · have hne : ((yn : Int) != (zn : Int)) = false := by rw [hyn, hzn, hyz]; simp
                have hne2 : ((yn : Int) == (zn : Int)) = true := by rw [hyn, hzn, hyz]; simp
                have hne3 : yn = zn := by rw [hyn, hzn, hyz]
                subst hne3
                clear h12 hyn hzn hyz hne hne2
                have hne : ((yn : Int) != (yn : Int)) = false := by simp
                go_wp2_with fail
                go_quiet (fail)
                go_wp2_with fail
                go_roundw
                case rel => exact ⟨x + 1, by omega, by go_num, below_drewN hbr _⟩
                case measure => simp [intOf]; omega
              · have h3 : (Dk.seen (x / 32) (Dk.blk d.kept (x / 32)) d.st)[x % 32]? = some y := by
                  rcases h12 with h | h
                  · exact absurd (Option.some.inj h) hyz
                  · exact h.symm
                have hne : ((yn : Int) != (zn : Int)) = true := by
                  rw [hyn, hzn]
                  simp
                  intro h
                  exact hyz (UInt8.toNat_inj.1 (by omega))
                obtain ⟨xd, hxd⟩ : ∃ xd, xd = x / 32 := ⟨_, rfl⟩
                obtain ⟨xm, hxm⟩ : ∃ xm, xm = x % 32 := ⟨_, rfl⟩
                have hd1 : (x : Int) / 32 = (xd : Int) := by omega
                have hd2 : (x : Int).tdiv 32 = (xd : Int) := by rw [Int.tdiv_eq_ediv_of_nonneg (by omega)]; exact hd1
                have hm1 : (x : Int) % 32 = (xm : Int) := by omega
                have hm2 : (x : Int).tmod 32 = (xm : Int) := by rw [Int.tmod_eq_emod_of_nonneg (by omega)]; exact hm1
                have hxdk : xd < k := by have := HKM.out; have := HLM.out; omega
                have hxdg : xd < gs.length := by rw [HGL.out]; exact hxdk
                obtain ⟨gA, rfl, hgA, hrow⟩ := HROWt.out (by omega)
                have n3 : wr.cell? ⟨gA, xd, none⟩ = some (slv gs[xd]) := by rw [hbr.cell (p := ⟨gA, xd, none⟩) hgA]; exact hrow xd hxdg
                obtain ⟨q1, q2⟩ := HSEt.out xd hxdg
                have n4 : wr.cell? ⟨gs[xd], xm, none⟩ = some (.int .u8 (yn : Int)) := by
                  rw [hbr.cell (p := ⟨gs[xd], xm, none⟩) (lt_of_blk' q2), cell_of_row w11 _ xm _ _ _ q2]
                  unfold cB bcs
                  rw [List.getElem?_toArray, List.getElem?_map]
                  dsimp only
                  rw [hxd, hxm, h3, hyn]
                  rfl
                obtain ⟨gg, hgg⟩ : ∃ gg, gg = gs[xd] := ⟨_, rfl⟩
                rw [← hgg] at n3 n4
                unfold slv at n3
                have hxdI : (xd : Int) < (k : Int) := by omega
                have hxd0 : (0 : Int) ≤ (xd : Int) := by omega
                have hxm0 : (0 : Int) ≤ (xm : Int) := by omega
                have hxmI : (xm : Int) < 32 := by omega
                have hxm32 : xm < 32 := by omega
                have hself : ((yn : Int) != (yn : Int)) = false := by simp
                have hd3 : x / 32 = xd := hxd.symm
                have hm3 : x % 32 = xm := hxm.symm
                clear h12 h3 hyn hzn hyz hxd hxm hrow q1 q2 hgg hxdg
                go_wp2_with fail
                go_quiet (fail)
                go_wp2_with fail
                go_roundw
                case rel => exact ⟨x + 1, by omega, by go_num, below_drewN hbr _⟩
                case measure => simp [intOf]; omega
            · have hxI : ¬ (x : Int) < (L : Int) := by omega
              go_wp2_with fail
              go_meet
              exact hbr
        · have hqI : ¬ (q : Int) ≤ 1 := by omega
          go_wp2_with fail
          go_meet
          exact Below.refl _ _
      case rest =>
        have hbc : Below w11.heap.size w11 wc := hcut
        clear hcut
        have H2u := Lib.hid (H2t.out.keep hbc)
        have H3u := Lib.hid (H3t.out.keep hbc)
        have H4u := Lib.hid (H4t.out.keep hbc)
        have HWu := Lib.hid (HWt.out.keep hbc)
        have HBu := Lib.hid (HBt.out.trans (hbc.mono HBt.out.size))
        have ZU : Hid (s6 ≤ wc.heap.size) := Lib.hid (Nat.le_trans ZT.out hbc.size)
        clear hbc H1t H2t H3t H4t HWt HBt ZT HROWt HSEt HNOW HONE HKQL hLne
        have HM12 := make_bytes wc q (by omega)
        have HMK := Lib.hid HM12
        clear HM12
        have hmk := HMK.out
        clear HMK
        go_wp2_with fail
        clear hmk
        obtain ⟨g12, hg12⟩ : ∃ g, g = wc.heap.size := ⟨_, rfl⟩
        rw [← hg12]
        have HG12 := Lib.hid hg12
        clear hg12
        go_loopw [20] (fun iv wr => ∃ x : Nat, x ≤ q ∧ iv = .int .i64 x ∧ wr.heap[g12]? = some (.cells (bcs (List.replicate x 32 ++ List.replicate (q - x) 0)).toArray 5 (0, 0)) ∧ Below wc.heap.size wc wr) (fun iv _ => q - (intOf iv).toNat)
        case atStart => exact ⟨0, Nat.zero_le _, rfl, by rw [HG12.out, List.replicate_zero, List.nil_append, Nat.sub_zero]; exact heap_alloc_new wc _, (Below.refl _ _).alloc (Nat.le_refl _) _⟩
        case round =>
          obtain ⟨x, hx, rfl, hgb, hbr⟩ := hrel
          have hx0 : (0 : Int) ≤ (x : Int) := by omega
          by_cases hxq : x < q
          · have hxI : (x : Int) < (q : Int) := by omega
            have hfr := frozen_of_row wr g12 x _ _ hgb
            have hce : wr.cell? ⟨g12, x, none⟩ = some (.int .u8 0) := by
              rw [cell_of_row wr g12 x _ _ _ hgb]
              unfold bcs
              rw [List.getElem?_toArray, List.getElem?_map, List.getElem?_append_right (by simp), List.length_replicate, List.getElem?_replicate, if_pos (by omega)]
              rfl
            have HGB := Lib.hid hgb
            clear hgb
            go_wp2_with fail
            go_roundw
            case rel =>
              refine ⟨x + 1, by omega, by go_num, ?_, hbr.setCell (by rw [← HG12.out]; exact Nat.le_refl _) _⟩
              rw [setP_heap HGB.out x]
              have e := rep_set q x hxq
              rw [e]
            case measure => simp [intOf]; omega
          · have hxI : ¬ (x : Int) < (q : Int) := by omega
            have hxe : x = q := by omega
            have hgb2 : wr.heap[g12]? = some (.cells (cB (List.replicate q 32)) 5 (0, 0)) := by
              rw [hxe, Nat.sub_self, List.replicate_zero, List.append_nil] at hgb
              exact hgb
            have HGB := Lib.hid hgb2
            have H2v := Lib.hid (H2u.out.keep hbr)
            have H3v := Lib.hid (H3u.out.keep hbr)
            have H4v := Lib.hid (H4u.out.keep hbr)
            have HWv := Lib.hid (HWu.out.keep hbr)
            have HBv := Lib.hid (HBu.out.trans (hbr.mono HBu.out.size))
            have ZV : Hid (s6 ≤ g12 ∧ g12 < wr.heap.size) := Lib.hid ⟨by rw [HG12.out]; exact ZU.out, lt_of_blk' hgb2⟩
            clear hgb hgb2 hbr hxe H2u H3u H4u HWu HBu ZU
            go_wp2_with fail
            -- the first crash: all bytes of all
            have hCr := crash_hd H2v.out (by rw [← HQ.out]; omega) (some ⟨g12, 0, none⟩) q (List.replicate q 32) (by simp; omega) (cB_in HGB.out) (fun _ ad e => by
              injection e with e
              rw [← e]
              have := HS.out
              have := Z56.out
              have := ZV.out
              dsimp only
              omega)
            rw [Dk.crash_full d q HQ.out, List.length_replicate] at hCr
            refine hCr.mono ?_
            rintro e w14 ⟨rfl, h2, ho⟩
            have H3w := Lib.hid (H3v.out.out ho (fun x _ h h' => by have := HS.out; omega))
            have H4w := Lib.hid (H4v.out.out ho (fun x _ h h' => by have := HS.out; omega))
            have HWw := Lib.hid (HWv.out.out ho (fun x h _ h' => by have := HS.out; omega))
            have HBw := Lib.hid (HBv.out.trans (ho.below (base := w.heap.size) (fun x h => by have := HS.out; omega) HBv.out.size))
            have H2w := Lib.hid h2
            obtain ⟨t1, ht1⟩ : ∃ t, t = wr.heap.size := ⟨_, rfl⟩
            obtain ⟨t2, ht2⟩ : ∃ t, t = w14.heap.size := ⟨_, rfl⟩
            have ZW : Hid (s6 ≤ t1 ∧ t1 ≤ t2) := Lib.hid (by rw [ht1, ht2]; exact ⟨by have := ZV.out; omega, ho.size⟩)
            rw [← ht1, ← ht2] at H2w
            have HT2 := Lib.hid ht2
            clear hCr h2 ho H2v H3v H4v HWv HBv ht1 ht2 HGB
            go_wp2_with fail
            have hFa := faults_hd H3w.out none 0 [] ⟨fun _ => ⟨rfl, rfl⟩, by simp, fun h => absurd h (by simp)⟩
            rw [List.length_nil] at hFa
            refine hFa.mono ?_
            rintro e w15 ⟨rfl, h3, ho⟩
            have H2x := Lib.hid (H2w.out.out ho (fun x hx h h' => by
              have := HS.out; have := Z56.out; have := ZW.out
              unfold Or at h
              omega))
            have H4x := Lib.hid (H4w.out.out ho (fun x _ h h' => by have := HS.out; omega))
            have HWx := Lib.hid (HWw.out.out ho (fun x h _ h' => by have := HS.out; omega))
            have HBx := Lib.hid (HBw.out.trans (ho.below (base := w.heap.size) (fun x h => by have := HS.out; omega) HBw.out.size))
            obtain ⟨t3, ht3⟩ : ∃ t, t = w15.heap.size := ⟨_, rfl⟩
            have ZX : Hid (t2 ≤ t3) := Lib.hid (by rw [HT2.out, ht3]; exact ho.size)
            have H3x := Lib.hid h3
            rw [← HT2.out, ← ht3] at H3x
            have HT3 := Lib.hid ht3
            clear hFa h3 ho H2w H3w H4w HWw HBw ht3
            go_wp2_with fail
            have hOn := on_sd H3x.out.sd
            have hon0 : ({ d with plan := [] } : Dk.D).on = d.on := rfl
            rw [hon0] at hOn
            by_cases hl0 : d.left = 0
            · have hon : d.on = false := by unfold Dk.D.on; simp [hl0]
              rw [hon] at hOn
              refine hOn.mono ?_
              rintro e w' ⟨rfl, rfl⟩
              clear hOn hon hon0
              have hSy := sync_hd H3x.out (by rw [← HQ.out]; omega)
              obtain ⟨p1, p2⟩ := Dk.off_sync (d := { d with plan := [] }) hl0
              rw [p1, p2] at hSy
              clear p1 p2 hl0
              go_wp2_with fail
              refine hSy.mono ?_
              rintro e w16 ⟨rfl, h3, ho⟩
              have H4y := Lib.hid (H4x.out.out ho (fun x hx h h' => by
                have := HS.out; have := Z56.out; have := ZW.out; have := ZX.out
                unfold Or at h'
                omega))
              have HWy := Lib.hid (HWx.out.out ho (fun x h hh h' => by
                have := HS.out; have := Z56.out; have := ZW.out; have := ZX.out
                unfold Or at h'
                omega))
              have HBy := Lib.hid (HBx.out.trans (ho.below (base := w.heap.size) (fun x h => by
                have := HS.out; have := Z56.out; have := ZW.out; have := ZX.out
                unfold Or at h
                omega) HBx.out.size))
              obtain ⟨t4, ht4⟩ : ∃ t, t = w16.heap.size := ⟨_, rfl⟩
              have ZY : Hid (t3 ≤ t4) := Lib.hid (by rw [HT3.out, ht4]; exact ho.size)
              have H3y := Lib.hid h3
              rw [← HT3.out, ← ht4] at H3y
              have HT4 := Lib.hid ht4
              clear hSy h3 ho H2x H3x H4x HWx HBx ht4
              have hCr := crash_hd H4y.out (by rw [← HQ.out]; omega) none 0 [] (by simp) (fun h => absurd h (by simp)) (fun h => absurd h (by simp))
              rw [Dk.crash_none, List.length_nil] at hCr
              go_wp2_with fail
              refine hCr.mono ?_
              rintro e w17 ⟨rfl, h4, ho⟩
              have H3z := Lib.hid (H3y.out.out ho (fun x hx h h' => by
                have := HS.out; have := Z56.out; have := ZW.out; have := ZX.out; have := ZY.out
                unfold Or at h
                omega))
              have HWz := Lib.hid (HWy.out.out ho (fun x h _ h' => by have := HS.out; omega))
              have HBz := Lib.hid (HBy.out.trans (ho.below (base := w.heap.size) (fun x h => by have := HS.out; omega) HBy.out.size))
              have H4z := Lib.hid h4
              clear hCr h4 ho H3y H4y HWy HBy
              have hSg := staged_sd H3z.out.sd
              have hst2 : ({ d with plan := [] } : Dk.D).st.length = q := HQ.out.symm
              rw [hst2] at hSg
              clear hst2
              go_wp2_with (first | (go_at_call 20; refine hSg.mono ?_; rintro e w' ⟨rfl, rfl⟩))
              have hBy := bytes_sd H3z.out.sd
              have hk2 : ({ d with plan := [] } : Dk.D).kept = d.kept := rfl
              rw [hk2] at hBy
              refine hBy.mono ?_
              rintro e w18 ⟨⟨A18, c18, rfl, hown18⟩, hb18⟩
              rw [← HL.out]
              have HWa := Lib.hid (HWz.out.keep hb18)
              have H4a := Lib.hid (H4z.out.keep hb18)
              have HBa := Lib.hid (HBz.out.trans (hb18.mono HBz.out.size))
              have hSm := same_any w18 A18 A6 d.kept d.kept c18 c6 (own_in hown18) HWa.out.bin
              rw [decide_eq_true rfl, ← HL.out] at hSm
              clear hBy hk2 hown18 hb18 HWz H4z HBz hSg H3z
              go_wp2_with fail
              refine hSm.mono ?_
              rintro e w' ⟨rfl, rfl⟩
              clear hSm
              go_wp2_with fail
              have hBy := bytes_sd H4a.out.sd
              refine hBy.mono ?_
              dsimp only
              rintro e w19 ⟨⟨A19, c19, rfl, hown19⟩, hb19⟩
              rw [← HL.out]
              have hSm := same_any w19 A19 A6 d.kept d.kept c19 c6 (own_in hown19) (HWa.out.keep hb19).bin
              rw [decide_eq_true rfl, ← HL.out] at hSm
              have HBb := Lib.hid (HBa.out.trans (hb19.mono HBa.out.size))
              clear hBy hown19 hb19 HWa H4a HBa
              go_wp2_with fail
              refine hSm.mono ?_
              rintro e w' ⟨rfl, rfl⟩
              clear hSm
              go_wp2
              go_ret
              exact ⟨rfl, HBb.out⟩
            · have hon : d.on = true := by unfold Dk.D.on; simp [hl0]
              rw [hon] at hOn
              refine hOn.mono ?_
              rintro e w' ⟨rfl, rfl⟩
              clear hOn hon hon0
              have hSy := sync_hd H3x.out (by rw [← HQ.out]; omega)
              obtain ⟨p1, p2⟩ : ({ d with plan := [] } : Dk.D).syncE = 0 ∧ ({ d with plan := [] } : Dk.D).sync = { d with plan := [], left := Dk.tick d.left, kept := Dk.layAll d.kept d.st, st := [] } := by
                have e1 : ({ d with plan := [] } : Dk.D).bad = false := by rw [Dk.bad_on { d with plan := [] } hl0]; rfl
                have e2 : ({ d with plan := [] } : Dk.D).asked = { d with plan := [], left := Dk.tick d.left } := by rw [Dk.asked_on { d with plan := [] } hl0]; rfl
                unfold Dk.D.syncE Dk.D.sync
                rw [e1, e2]
                exact ⟨rfl, rfl⟩
              rw [p1, p2] at hSy
              clear p1 p2 hl0
              go_wp2_with fail
              refine hSy.mono ?_
              rintro e w16 ⟨rfl, h3, ho⟩
              have H2y := Lib.hid (H2x.out.out ho (fun x hx h h' => by
                have := HS.out; have := Z56.out; have := ZW.out; have := ZX.out; have := HT3.out
                unfold Or at h h'
                omega))
              have H4y := Lib.hid (H4x.out.out ho (fun x hx h h' => by
                have := HS.out; have := Z56.out; have := ZW.out; have := ZX.out
                unfold Or at h'
                omega))
              have HWy := Lib.hid (HWx.out.out ho (fun x h hh h' => by
                have := HS.out; have := Z56.out; have := ZW.out; have := ZX.out
                unfold Or at h'
                omega))
              have HBy := Lib.hid (HBx.out.trans (ho.below (base := w.heap.size) (fun x h => by
                have := HS.out; have := Z56.out; have := ZW.out; have := ZX.out
                unfold Or at h
                omega) HBx.out.size))
              obtain ⟨t4, ht4⟩ : ∃ t, t = w16.heap.size := ⟨_, rfl⟩
              have ZY : Hid (t3 ≤ t4) := Lib.hid (by rw [HT3.out, ht4]; exact ho.size)
              have H3y := Lib.hid h3
              rw [← HT3.out, ← ht4] at H3y
              have HT4 := Lib.hid ht4
              clear hSy h3 ho H2x H3x H4x HWx HBx ht4
              have hCr := crash_hd H4y.out (by rw [← HQ.out]; omega) none 0 [] (by simp) (fun h => absurd h (by simp)) (fun h => absurd h (by simp))
              rw [Dk.crash_none, List.length_nil] at hCr
              go_wp2_with fail
              refine hCr.mono ?_
              rintro e w17 ⟨rfl, h4, ho⟩
              have H2z := Lib.hid (H2y.out.out ho (fun x hx h h' => by
                have := HS.out; have := Z56.out; have := ZW.out; have := ZX.out; have := ZY.out
                unfold Or at h
                omega))
              have H3z := Lib.hid (H3y.out.out ho (fun x hx h h' => by
                have := HS.out; have := Z56.out; have := ZW.out; have := ZX.out; have := ZY.out
                unfold Or at h
                omega))
              have HWz := Lib.hid (HWy.out.out ho (fun x h _ h' => by have := HS.out; omega))
              have HBz := Lib.hid (HBy.out.trans (ho.below (base := w.heap.size) (fun x h => by have := HS.out; omega) HBy.out.size))
              have H4z := Lib.hid h4
              clear hCr h4 ho H2y H3y H4y HWy HBy
              obtain ⟨la, hla⟩ : ∃ la, la = Dk.layAll d.kept d.st := ⟨_, rfl⟩
              rw [← hla] at H2z H3z
              have hlaL : la.length = L := by rw [HLM.out, HM.out]; exact H3z.out.ok.kept
              have HLA := Lib.hid hlaL
              clear hlaL hla
              go_wp2_with fail
              have hBy := bytes_sd H2z.out.sd
              refine hBy.mono ?_
              dsimp only
              rintro e w18 ⟨⟨A18, c18, rfl, hown18⟩, hb18⟩
              rw [HLA.out]
              have HA18 := Lib.hid (own_in hown18)
              have HWa := Lib.hid (HWz.out.keep hb18)
              have H3a := Lib.hid (H3z.out.keep hb18)
              have H4a := Lib.hid (H4z.out.keep hb18)
              have HBa := Lib.hid (HBz.out.trans (hb18.mono HBz.out.size))
              clear hBy hown18 hb18 HWz H3z H4z HBz H2z
              go_wp2_with fail
              have hBy := bytes_sd H3a.out.sd
              refine hBy.mono ?_
              dsimp only
              rintro e w19 ⟨⟨A19, c19, rfl, hown19⟩, hb19⟩
              rw [HLA.out]
              have HWb := Lib.hid (HWa.out.keep hb19)
              have H4b := Lib.hid (H4a.out.keep hb19)
              have HBb := Lib.hid (HBa.out.trans (hb19.mono HBa.out.size))
              have hSm := same_any w19 A18 A19 la la c18 c19 (HA18.out.keep hb19) (own_in hown19)
              rw [decide_eq_true rfl, HLA.out] at hSm
              clear hBy hown19 hb19 HWa H3a H4a HBa HA18
              go_wp2_with fail
              refine hSm.mono ?_
              rintro e w' ⟨rfl, rfl⟩
              clear hSm
              go_wp2_with fail
              have hBy := bytes_sd H4b.out.sd
              refine hBy.mono ?_
              dsimp only
              rintro e w20 ⟨⟨A20, c20, rfl, hown20⟩, hb20⟩
              rw [← HL.out]
              have hSm := same_any w20 A20 A6 d.kept d.kept c20 c6 (own_in hown20) (HWb.out.keep hb20).bin
              rw [decide_eq_true rfl, ← HL.out] at hSm
              have HBc := Lib.hid (HBb.out.trans (hb20.mono HBb.out.size))
              clear hBy hown20 hb20 HWb H4b HBb
              go_wp2_with fail
              refine hSm.mono ?_
              rintro e w' ⟨rfl, rfl⟩
              clear hSm
              go_wp2
              go_ret
              exact ⟨rfl, HBc.out⟩

/-- THE STATEMENT's CALL, at any input. -/
theorem diskCrashes_any (w : World) (bl : Int) (Al C : Option Addr) (cl cc : Nat) (l : List Dk.O) (cuts : List UInt8) (hO : OpsIn w w.heap.size Al l) (hll : l.length ≤ 9223372036854775807) (hC : BInB w w.heap.size C cuts) (lc : cuts.length ≤ 9223372036854775807) :
    Calls Try.prog 5 #[.int .i64 bl, .slice Al l.length cl, .slice C cuts.length cc] w (AwakePost w) := by
  by_cases h : Dk.fewB l = false ∨ 40 < bl ∨ 100 < cuts.length
  · exact crashes_out w bl Al C cl cc l cuts hO hll h
  · refine crashes_in w bl Al C cl cc l cuts hO hll hC lc ?_ (fun h' => h (.inr (.inl h'))) (fun h' => h (.inr (.inr h')))
    cases hf : Dk.fewB l with
    | true => rfl
    | false => exact absurd (.inl hf) h
end Go.Proofs.Ytoaadallbpelbaa
