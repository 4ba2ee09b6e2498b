/- What the calls Write and Read of the document's own disk do. Conditions: at most 1048575 blocks staged. The small calls of package wal: where an area begins and how long it is, a number as bytes, a head's bytes. No condition but that the disk has two blocks. -/
import Derived.Test.YtfceljbmdcbciaaDoorMg26
import Derived.Test.YtfceljbmdcbciaaDoorMg11
namespace Go.Proofs.YtfceljbmdcbciaaDoor
set_option maxRecDepth 8000
open Go.RowKit

theorem Tryd.infoRStaged : (Tryd.prog.info? 100).map (fun i => (i.zero, i.size, i.bytes)) = some (some (.agg #[.int .i64 0, .slice none 0 0]), 2, 32) := by kernel_rfl
theorem pad_set (l : List UInt8) (k : Nat) (hk : k < l.length) (h32 : l.length ≤ 32) : (bcs (l.take k ++ List.replicate (32 - k) 0)).toArray.setIfInBounds k (B l[k]) = (bcs (l.take (k + 1) ++ List.replicate (32 - (k + 1)) 0)).toArray := by
  have e1 : List.replicate (32 - k) (0 : UInt8) = 0 :: List.replicate (32 - (k + 1)) 0 := by rw [show 32 - k = (32 - (k + 1)) + 1 by omega]; rfl
  have e2 : l.take (k + 1) = l.take k ++ [l[k]] := List.take_succ_eq_append_getElem hk
  have e3 : (l.take k).length = k := by rw [List.length_take]; omega
  rw [e1, e2, List.setIfInBounds_toArray]
  congr 1
  simp only [bcs, List.map_append, List.map_cons, List.map_replicate, List.map_nil]
  rw [List.set_append_right _ _ (by rw [List.length_map, e3]; exact Nat.le_refl _), List.length_map, e3, Nat.sub_self, List.set_cons_zero, List.append_assoc]
  rfl
theorem rcs_len : ∀ (l : List (Nat × List UInt8)) (gs : List Nat), gs.length = l.length → (rcs l gs).length = l.length * 2
  | [], gs, h => by cases gs <;> simp_all [rcs]
  | s :: l, [], h => by simp at h
  | s :: l, g :: gs, h => by
    unfold rcs
    rw [List.length_append, rcs_len l gs (by simpa using h)]
    simp [rc1]
    omega
theorem rcs_snoc : ∀ (l : List (Nat × List UInt8)) (gs : List Nat) (s : Nat × List UInt8) (g : Nat), gs.length = l.length → rcs (l ++ [s]) (gs ++ [g]) = rcs l gs ++ rc1 s.1 g
  | [], [], s, g, _ => by simp [rcs]
  | [], _ :: _, _, _, h => by simp at h
  | x :: l, [], s, g, h => by simp at h
  | x :: l, y :: gs, s, g, h => by
    rw [List.cons_append, List.cons_append]
    unfold rcs
    rw [rcs_snoc l gs s g (by simpa using h), List.append_assoc]
theorem rcs_one : ∀ (l : List (Nat × List UInt8)) (gs : List Nat), ∀ v ∈ rcs l gs, v.oneCell' = true
  | [], [], v, h => by cases h
  | [], _ :: _, v, h => by cases h
  | _ :: _, [], v, h => by cases h
  | s :: l, g :: gs, v, h => by
    unfold rcs at h
    rcases List.mem_append.1 h with h | h
    · unfold rc1 at h
      simp at h
      rcases h with rfl | rfl <;> rfl
    · exact rcs_one l gs v h

/-- One more block is staged. -/
theorem r_push {w1 w3 : World} {b1 : Rm} {d1 : Dk.D} {l : List UInt8} {j gx m s cap3 : Nat} {A3 : Option Addr} {u : Value} (h : RAt w1 b1 d1) (ht : RThere w1 b1) (hsep : Sep b1) (hb : Below w1.heap.size w1 w3) (hj : j < d1.n) (hl : l.length ≤ 32)
    (hgx : w3.heap[gx]? = some (.cells (cB (Dk.pad l)) 5 (0, 0))) (hgx1 : w1.heap.size ≤ gx) (hm : m = d1.st.length) (hO : w3.ownsRow s 100 2 (.slice A3 (m + 1) cap3) (m + 1) (rcs d1.st b1.gs ++ rc1 j gx)) (hs : w1.heap.size ≤ s) (hu : u = .slice A3 (m + 1) cap3) :
    RStep w1 b1 { d1 with st := d1.st ++ [(j, Dk.pad l)] } (w3.setCell ⟨b1.P, 1, none⟩ u) := by
  subst hu
  have h3 : RAt w3 b1 d1 := h.same (fun x hx => hb.block x (ht.all x hx))
  have hPl := ht.all b1.P (rbmem.1 rfl)
  have hoth : ∀ x, x ≠ b1.P → (w3.setCell ⟨b1.P, 1, none⟩ (.slice A3 (m + 1) cap3)).heap[x]? = w3.heap[x]? := fun x hx => setP_other w3 b1.P 1 _ x hx
  have hA3 : ∀ x ∈ blkOf A3, s ≤ x ∧ x < w3.heap.size := by
    obtain ⟨A', cap', e, _, _, _, hblk⟩ := own_form hO
    injection e with e1 _ _
    rw [e1]
    exact fun x hx => ⟨(hblk x hx).1, (hblk x hx).2.1⟩
  have hlen : (d1.st ++ [(j, Dk.pad l)]).length = m + 1 := by rw [List.length_append, hm]; rfl
  refine ⟨{ b1 with S := A3, cS := cap3, gs := b1.gs ++ [gx] }, rfl, ⟨⟨h.ok.n, h.ok.kept, fun x hx => ?_⟩, ?_, ?_, ?_, ?_, fun k hk => ?_, ?_, h.cap, h.left⟩, ⟨fun x hx => ?_⟩, fun x hx => ?_, ?_, fun x hx => ?_⟩
  · rcases List.mem_append.1 hx with hx | hx
    · exact h.ok.st x hx
    · rw [List.mem_singleton] at hx
      subst hx
      exact ⟨hj, Dk.pad_len l hl⟩
  · rw [setP_heap h3.disk 1 _]
    dsimp only
    rw [hlen]
    rfl
  · exact own_block h3.kept (fun x hx => hoth x (fun e => h.PK (e ▸ hx)))
  · dsimp only
    rw [hlen, rcs_snoc _ _ _ _ h.gl]
    exact own_base (own_block hO (fun x hx => hoth x (fun e => by have := (hA3 x hx).1; omega)))
  · dsimp only
    rw [List.length_append, List.length_append, h.gl]
    rfl
  · dsimp only
    by_cases hkm : k < d1.st.length
    · have hkg : k < b1.gs.length := by rw [h.gl]; exact hkm
      rw [List.getElem_append_left hkg, List.getElem_append_left hkm, hoth _ (fun e => h.Pg (e ▸ List.getElem_mem _))]
      exact h3.gb k hkm
    · have hk2 : k = d1.st.length := by
        dsimp only at hk
        rw [hlen] at hk
        omega
      subst hk2
      have e1 : (b1.gs ++ [gx])[d1.st.length]'(by rw [List.length_append, h.gl]; simp) = gx := by
        rw [List.getElem_append_right (by rw [h.gl]; exact Nat.le_refl _)]
        simp
      have e2 : (d1.st ++ [(j, Dk.pad l)])[d1.st.length]'(by simp) = (j, Dk.pad l) := by
        rw [List.getElem_append_right (Nat.le_refl _)]
        simp
      rw [e1, e2, hoth gx (by omega)]
      exact hgx
  · exact h3.plan.past h3.disk (by decide) (fun x _ hx => hoth x hx)
  · rw [World.size_setCell]
    rcases (mem_R _ _).1 hx with hx | hx | hx | hx | hx
    · exact Nat.lt_of_lt_of_le (ht.all x (rbmem.1 hx)) hb.size
    · exact Nat.lt_of_lt_of_le (ht.all x (rbmem.2.1 hx)) hb.size
    · exact (hA3 x hx).2
    · exact Nat.lt_of_lt_of_le (ht.all x (rbmem.2.2.2.1 hx)) hb.size
    · rcases List.mem_append.1 hx with hx | hx
      · exact Nat.lt_of_lt_of_le (ht.all x (rbmem.2.2.2.2 hx)) hb.size
      · rw [List.mem_singleton] at hx
        rw [hx]
        exact lt_of_blk' hgx
  · rcases List.mem_append.1 hx with hx | hx
    · exact hsep x hx
    · rw [List.mem_singleton] at hx
      subst hx
      intro hk
      have := ht.all x (rbmem.2.1 hk)
      omega
  · exact (OutP.of (F := fun x => x ∈ b1.F) hb).set _ (rbmem.1 rfl)
  · rcases (mem_R _ _).1 hx with hx | hx | hx | hx | hx
    · exact .inl (rbmem.1 hx)
    · exact .inl (rbmem.2.1 hx)
    · exact .inr (Nat.le_trans hs (hA3 x hx).1)
    · exact .inl (rbmem.2.2.2.1 hx)
    · rcases List.mem_append.1 hx with hx | hx
      · exact .inl (rbmem.2.2.2.2 hx)
      · rw [List.mem_singleton] at hx
        exact .inr (by rw [hx]; exact hgx1)

set_option maxHeartbeats 3200000 in
theorem ref_write_any (w : World) (b : Rm) (d : Dk.D) (i : Int) (A : Option Addr) (cap : Nat) (l : List UInt8) (h : RAt w b d) (ht : RThere w b) (hsep : Sep b) (hst : d.st.length ≤ 1048575) (hl : l.length ≤ 9223372036854775807) (hA : BIn w A l) (hF : 0 < l.length → ∀ ad, A = some ad → ad.block ∉ b.F) :
    Calls Tryd.prog 108 #[.pointer (some ⟨b.P, 0, none⟩), .int .i64 i, .slice A l.length cap] w (RInt w b (d.writeE i l) (d.write i l)) := by
  obtain ⟨i0, hi0, hz0, hz1, hz2⟩ := info_parts Tryd.infoRStaged
  have HLN := ref_len_any w b d h
  have HFA := ref_fails_any w b d h ht hsep
  by_cases hi0' : i < 0
  · have HE : Hid (RInt w b (d.writeE i l) (d.write i l) (.returned (.int .i64 4)) w) := Lib.hid (by
      unfold Dk.D.writeE Dk.D.write
      rw [if_pos (.inl hi0'), if_pos (.inl hi0')]
      exact ⟨rfl, RStep.quiet h ht hsep (Below.refl _ _)⟩)
    clear HFA HLN
    go_enter Tryd.func108, Tryd.ntmps108
    go_wp2_with fail
    go_ret
    exact HE.out
  obtain ⟨N, hN⟩ : ∃ N, N = d.n := ⟨_, rfl⟩
  rw [← hN] at HLN
  by_cases hiN : (N : Int) ≤ i
  · have HE : Hid (RInt w b (d.writeE i l) (d.write i l) (.returned (.int .i64 4)) w) := Lib.hid (by
      unfold Dk.D.writeE Dk.D.write
      rw [if_pos (.inr (by rw [← hN]; exact hiN)), if_pos (.inr (by rw [← hN]; exact hiN))]
      exact ⟨rfl, RStep.quiet h ht hsep (Below.refl _ _)⟩)
    clear HFA hN
    go_enter Tryd.func108, Tryd.ntmps108
    go_wp2_with (refine HLN.mono ?_; rintro e w' ⟨rfl, rfl⟩)
    go_ret
    exact HE.out
  have hin : ¬ (i < 0 ∨ (d.n : Int) ≤ i) := by rw [← hN]; omega
  by_cases hlen : 32 < l.length
  · have HE : Hid (RInt w b (d.writeE i l) (d.write i l) (.returned (.int .i64 2)) w) := Lib.hid (by
      unfold Dk.D.writeE Dk.D.write
      rw [if_neg hin, if_neg hin, if_pos hlen, if_pos hlen]
      exact ⟨rfl, RStep.quiet h ht hsep (Below.refl _ _)⟩)
    have hlI : (32 : Int) < (l.length : Int) := by omega
    clear HFA hN hin hlen
    go_enter Tryd.func108, Tryd.ntmps108
    go_wp2_with (refine HLN.mono ?_; rintro e w' ⟨rfl, rfl⟩)
    go_ret
    exact HE.out
  have hlI : ¬ (32 : Int) < (l.length : Int) := by omega
  cases hb : d.bad with
  | true =>
    have HE : Hid (∀ w', RStep w b d.asked w' → RInt w b (d.writeE i l) (d.write i l) (.returned (.int .i64 21)) w') := Lib.hid (fun w' hs => by
      unfold Dk.D.writeE Dk.D.write
      rw [if_neg hin, if_neg hin, if_neg hlen, if_neg hlen, hb, if_pos rfl, if_pos rfl]
      exact ⟨rfl, hs⟩)
    rw [hb] at HFA
    clear hN hin hb hlen
    go_enter Tryd.func108, Tryd.ntmps108
    go_wp2_with (refine HLN.mono ?_; rintro e w' ⟨rfl, rfl⟩)
    refine HFA.mono ?_
    rintro e w' ⟨rfl, hs⟩
    have HE2 := Lib.hid (HE.out _ hs)
    clear hs
    go_wp2
    go_ret
    exact HE2.out
  | false =>
    obtain ⟨j, rfl⟩ := Int.eq_ofNat_of_zero_le (show 0 ≤ i by omega)
    have HE : Hid (∀ w', RStep w b { d.asked with st := d.asked.st ++ [(j, Dk.pad l)] } w' → RInt w b (d.writeE (j : Int) l) (d.write (j : Int) l) (.returned (.int .i64 0)) w') := Lib.hid (fun w' hs => by
      unfold Dk.D.writeE Dk.D.write
      rw [if_neg hin, if_neg hin, if_neg hlen, if_neg hlen, hb]
      rw [Dk.asked_st, Int.toNat_natCast] at *
      exact ⟨rfl, hs⟩)
    rw [hb] at HFA
    have hst1 : d.asked.st.length ≤ 1048575 := by rw [Dk.asked_st]; exact hst
    have hjn1 : j < d.asked.n := by rw [Dk.asked_n]; omega
    have hAK : ∀ w1, OutP (fun x => x ∈ b.F) w w1 → BIn w1 A l := fun w1 ho hn => by
      obtain ⟨bb, off, e, hlt, hc⟩ := hA hn
      exact ⟨bb, off, e, Nat.lt_of_lt_of_le hlt ho.size, fun k hk => (World.cell?_of_block (w := w) (w' := w1) (a := ⟨bb, off + k, none⟩) (ho.block bb hlt (hF hn _ e))).trans (hc k hk)⟩
    obtain ⟨d1, hd1⟩ : ∃ d1, d1 = d.asked := ⟨_, rfl⟩
    rw [← hd1] at HE HFA hst1 hjn1
    obtain ⟨n, hn⟩ : ∃ n, n = l.length := ⟨_, rfl⟩
    rw [← hn] at hlI ⊢
    have hn32 : n ≤ 32 := by omega
    have HN := Lib.hid hn
    have HAK := Lib.hid hAK
    have HJN := Lib.hid hjn1
    clear hd1 hN hin hb hlen hst hl hA hF hAK hn h ht hsep hjn1
    go_enter Tryd.func108, Tryd.ntmps108
    go_wp2_with (refine HLN.mono ?_; rintro e w' ⟨rfl, rfl⟩)
    refine HFA.mono ?_
    rintro e w1 ⟨rfl, b1, hP1, hat1, ht1, hs1, ho1, hF1⟩
    have hBA := HAK.out w1 ho1
    have HBA := Lib.hid hBA
    have HR1 := Lib.hid hat1
    have HT1 := Lib.hid ht1
    have HS1 := Lib.hid hs1
    have HO1 := Lib.hid ho1
    have HF1 := Lib.hid hF1
    have HP1 := Lib.hid hP1
    have HMK : (Instr.makeSlice 36 (.int .i64 32) (.int .i64 32)).run Tryd.prog w1 = .ok (.slice (some ⟨w1.heap.size, 0, none⟩) 32 32) (w1.alloc (.cells (bcs (List.replicate 32 0)).toArray 5)) := make_bytes w1 32 (by omega)
    obtain ⟨z, hz⟩ : ∃ z, z = (bcs (List.replicate 32 0)).toArray := ⟨_, rfl⟩
    rw [← hz] at HMK
    have HZ := Lib.hid hz
    clear hz hBA hat1 ht1 hs1 ho1 hF1 hP1 HFA HLN HAK
    go_wp2_with fail
    clear HMK
    obtain ⟨gx, hgx⟩ : ∃ g, g = w1.heap.size := ⟨_, rfl⟩
    rw [← hgx]
    have HGX := Lib.hid hgx
    clear hgx
    go_loopw [9] (fun iv wr => ∃ k : Nat, k ≤ n ∧ iv = .int .i64 k ∧ wr.heap[gx]? = some (.cells (bcs (l.take k ++ List.replicate (32 - k) 0)).toArray 5 (0, 0)) ∧ Below w1.heap.size w1 wr) (fun iv _ => n - (intOf iv).toNat)
    case atStart => exact ⟨0, Nat.zero_le _, rfl, by rw [HGX.out, List.take_zero, List.nil_append, HZ.out]; exact heap_alloc_new w1 _, (Below.refl _ _).alloc (Nat.le_refl _) _⟩
    case round =>
      obtain ⟨k, hk, rfl, hgb, hbr⟩ := hrel
      have hk0 : (0 : Int) ≤ (k : Int) := by omega
      by_cases hlt : k < n
      · have hkI : (k : Int) < (n : Int) := by omega
        have hk32 : (k : Int) < 32 := by omega
        have hkl : k < l.length := by have := HN.out; omega
        obtain ⟨bb, off, rfl, hbb, hcell⟩ := HBA.out (by omega)
        have hc0 : wr.cell? ⟨bb, off + k, none⟩ = some (B l[k]) := by rw [hbr.cell (p := ⟨bb, off + k, none⟩) hbb]; exact hcell k hkl
        obtain ⟨x, hx⟩ : ∃ x, x = l[k].toNat := ⟨_, rfl⟩
        have HX : Hid (Value.int .u8 (x : Int) = B l[k]) := Lib.hid (by rw [hx])
        unfold B at hc0
        rw [← hx] at hc0
        have hfr := frozen_of_row wr gx k _ _ hgb
        have hce : wr.cell? ⟨gx, k, none⟩ = some (.int .u8 0) := by
          rw [cell_of_row wr gx k _ _ _ hgb]
          unfold bcs
          rw [List.getElem?_toArray, List.getElem?_map, List.getElem?_append_right (by rw [List.length_take]; omega), List.length_take, List.getElem?_replicate, if_pos (by omega)]
          rfl
        have HGB := Lib.hid hgb
        have HPS := Lib.hid (pad_set l k hkl (by rw [← HN.out]; exact hn32))
        have hsw : w1.heap.size ≤ gx := by rw [HGX.out]; exact Nat.le_refl _
        clear hgb hcell hx hbb
        go_wp2_with fail
        go_roundw
        case rel =>
          refine ⟨k + 1, by omega, by go_num, ?_, hbr.setCell (p := ⟨gx, k, none⟩) hsw _⟩
          rw [setP_heap HGB.out k, HX.out, HPS.out]
        case measure => simp [intOf]; omega
      · have hkI : ¬ (k : Int) < (n : Int) := by omega
        have hgb2 : wr.heap[gx]? = some (.cells (cB (Dk.pad l)) 5 (0, 0)) := by
          rw [show k = n by omega, HN.out, List.take_of_length_le (Nat.le_refl _)] at hgb
          exact hgb
        obtain ⟨wA, hwA⟩ : ∃ wA, wA = wr := ⟨wr, rfl⟩
        subst hwA
        have HGB := Lib.hid hgb2
        have HBR := Lib.hid hbr
        have HRA := Lib.hid (HR1.out.same (fun x hx => hbr.block x (HT1.out.all x hx)))
        have c1 := HRA.out.c.2.1
        have f1 := HRA.out.fr 1
        obtain ⟨m, hm⟩ : ∃ m, m = d1.st.length := ⟨_, rfl⟩
        rw [← hm] at c1 hst1
        have HM := Lib.hid hm
        rw [HP1.out] at c1 f1
        have HXL : Hid ((rcs d1.st b1.gs).length = m * 2) := Lib.hid (by rw [rcs_len _ _ HRA.out.gl, hm])
        have HONE := Lib.hid (rcs_one d1.st b1.gs)
        have HCE : Hid (0 < m → ∃ ad, b1.S = some ad ∧ ∀ jj u, (rcs d1.st b1.gs)[jj]? = some u → (wA.alloc (.cells #[] 100)).cell? (ad.add jj) = some u) := Lib.hid (fun h0 => by
          obtain ⟨A', cap', e, _, _, hA', hblk⟩ := own_form HRA.out.st
          injection e with e1 _ _
          obtain ⟨g, hg⟩ := hA' (by rw [← hm]; exact h0)
          rw [hg] at e1
          refine ⟨_, e1, fun jj u hu => ?_⟩
          have := (HRA.out.st.alloc (.cells #[] 100)).cells (g := g) (by rw [e1]; rfl) jj u hu
          exact this)
        obtain ⟨xs, hxs⟩ : ∃ xs, xs = rcs d1.st b1.gs := ⟨_, rfl⟩
        rw [← hxs] at HXL HONE HCE
        have HXS := Lib.hid hxs
        have hPl : b.P < w1.heap.size := by rw [← HP1.out]; exact HT1.out.all _ (rbmem.1 rfl)
        have hPA : b.P < wA.heap.size := Nat.lt_of_lt_of_le hPl hbr.size
        have cAl : ∀ o : Obj, (wA.alloc o).cell? ⟨b.P, 1, none⟩ = some (.slice b1.S m b1.cS) := fun o => (World.cell?_alloc_lt wA _ _ hPA).trans c1
        clear hgb hgb2 hbr hm hxs hk hlt
        go_wp2_with (first
          | ((with_reducible refine wpList_append_gen (o := ⟨some 44, _, _, _, _, _⟩) rfl (.tmp 39) (.tmp 43) 44 rfl wA.heap.size 100 i0 _ 2 32 Tryd.underlying44 hi0 hz0 hz1 hz2 rfl ?_ (.slice (some ⟨wA.heap.size, 0, none⟩) 0 0) 0 [] ?_ ?_ b1.S m b1.cS xs ?_ ?_ ?_ HONE.out ?_ ?_ ?_ ?_); exact (by omega); exact rfl; exact (own_empty wA _ _ _ (Nat.le_refl _) _ rfl); exact rfl; exact HXL.out; exact HCE.out; exact (by unfold maxLen; omega); exact (by omega); exact (by simp); intro v2 w2 hown2 hgrow2 hat2; rw [Nat.zero_add, List.nil_append] at hown2; obtain ⟨A2, cap2, rfl, _, _, _, _⟩ := own_form hown2; clear hat2; have HB2 := Lib.hid (((Below.refl wA.heap.size wA).alloc (Nat.le_refl _) _).grown hgrow2 (by simp) (fun q hq => by simp [Value.ownBlock] at hq; omega)); have HO2 := Lib.hid hown2; clear hgrow2 hown2)
          | ((with_reducible refine wpList_append_gen (o := ⟨some 49, _, _, _, _, _⟩) rfl (.tmp 44) (.tmp 48) 44 rfl wA.heap.size 100 i0 _ 2 32 Tryd.underlying44 hi0 hz0 hz1 hz2 rfl ?_ (.slice A2 m cap2) m xs ?_ ?_ (some ⟨w2.heap.size, 0, none⟩) 1 1 (rc1 j gx) ?_ ?_ ?_ ?_ ?_ ?_ ?_ ?_); exact (by omega); exact rfl; exact (HO2.out.alloc _); exact rfl; exact rfl; exact (fun _ => ⟨_, rfl, World.news_of_block (heap_alloc_new w2 _)⟩); exact (fun u hu => by unfold rc1 at hu; simp at hu; rcases hu with rfl | rfl <;> rfl); exact (by unfold maxLen; omega); exact (by omega); exact (by have := HB2.out.size; simp; omega); intro v3 w3 hown3 hgrow3 hat3; obtain ⟨A3, cap3, rfl, _, _, _, _⟩ := own_form hown3; clear hat3; have HB3 := Lib.hid ((HB2.out.alloc HB2.out.size _).grown hgrow3 (by have := HB2.out.size; simp; omega) (fun q hq => (World.ownsRow.lt HO2.out q hq).1)); have HO3 := Lib.hid hown3; clear hgrow3 hown3; have c13 : w3.cell? ⟨b.P, 1, none⟩ = some (.slice b1.S m b1.cS) := (HB3.out.cell (p := ⟨b.P, 1, none⟩) (Nat.lt_of_lt_of_le hPl HBR.out.size)).trans c1; have f13 : w3.frozen? ⟨b.P, 1, none⟩ = false := (by have h5 := HRA.out.same (fun x hx => HB3.out.block x (Nat.lt_of_lt_of_le (HT1.out.all x hx) HBR.out.size)); rw [← HP1.out]; exact h5.fr 1)))
        go_ret
        refine HE.out _ (RStep.after HP1.out HO1.out HF1.out ?_)
        rw [← HP1.out]
        exact r_push HR1.out HT1.out HS1.out (HBR.out.trans (HB3.out.mono HBR.out.size)) HJN.out (by rw [← HN.out]; exact hn32) ((HB3.out.block gx (lt_of_blk' HGB.out)).trans HGB.out) (by rw [HGX.out]; exact Nat.le_refl _) HM.out (by rw [← HXS.out]; exact HO3.out) HBR.out.size rfl

set_option maxHeartbeats 1600000 in
theorem ref_read_any (w : World) (b : Rm) (d : Dk.D) (j : Nat) (h : RAt w b d) (_ht : RThere w b) (hj : j < d.n) (hst : d.st.length ≤ 1048576) :
    Calls Tryd.prog 47 #[.pointer (some ⟨b.P, 0, none⟩), .int .i64 (j : Int)] w fun e w' => (∃ A c, e = .returned (.slice A 32 c) ∧ BIn w A (Dk.seen j (Dk.blk d.kept j) d.st)) ∧ w = w' := by
  have HLN := ref_len_any w b d h
  have p1 := h.c.2.1
  have p0 := h.c.1
  have hn := h.ok.n
  obtain ⟨N, hN⟩ : ∃ N, N = d.n := ⟨_, rfl⟩
  obtain ⟨L, hL⟩ : ∃ L, L = d.kept.length := ⟨_, rfl⟩
  obtain ⟨m, hm⟩ : ∃ m, m = d.st.length := ⟨_, rfl⟩
  have hLn : L = 32 * N := by rw [hL, hN]; exact h.ok.kept
  rw [← hN] at HLN hn
  rw [← hL] at p0
  rw [← hm] at p1 hst
  obtain ⟨K', cap', eK, hcapn, hcapm, hKs, hKb⟩ := own_form h.kept
  injection eK with eK1 eKn eK2
  obtain ⟨gk, hgk⟩ := hKs (by omega)
  have hbK : b.K = some ⟨gk, 0, none⟩ := by rw [eK1, hgk]
  rw [hbK] at p0
  have hjN : j < N := by rw [hN]; exact hj
  obtain ⟨cK, hcK⟩ : ∃ cK, cK = b.cK := ⟨_, rfl⟩
  rw [← hcK] at p0
  have hcKL : L ≤ cK := by rw [hcK, eK2, hL]; exact hcapn
  have hcKm : cK ≤ 9223372036854775807 := by rw [hcK, eK2]; unfold maxLen at hcapm; omega
  obtain ⟨j32, hj32⟩ : ∃ x, x = 32 * j := ⟨_, rfl⟩
  obtain ⟨j64, hj64⟩ : ∃ x, x = j32 + 32 := ⟨_, rfl⟩
  have HB0 : Hid (BIn w (some ⟨gk, j32, none⟩) (Dk.blk d.kept j)) := Lib.hid (fun _ => ⟨gk, j32, rfl, (hKb gk (by rw [hgk]; simp [blkOf])).2.1, fun k hk => by
    have hk32 : k < 32 := by rw [Dk.blk_len h.ok.kept hj] at hk; exact hk
    have := h.kept.cells (g := gk) (by rw [hbK]; rfl) (j32 + k) (B ((Dk.blk d.kept j)[k])) (by
      unfold bcs
      rw [List.getElem?_map]
      have e := Dk.blk_get d.kept j k
      rw [if_pos hk32, List.getElem?_eq_getElem hk] at e
      rw [show j32 + k = 32 * j + k by omega, ← e]
      rfl)
    rw [Addr.add_mid, Nat.zero_add] at this
    exact this⟩)
  have HR := Lib.hid h
  have HM := Lib.hid hm
  have m1 : (32 : Int) * (j : Int) = (j32 : Int) := by omega
  have m2 : (j32 : Int) + 32 = (j64 : Int) := by omega
  have m3 : IntKind.i64.wrap (j32 : Int) = (j32 : Int) := IntWalk.i64_in _ (by omega)
  have m4 : IntKind.i64.wrap (j64 : Int) = (j64 : Int) := IntWalk.i64_in _ (by omega)
  have m5 : (0 : Int) ≤ (j32 : Int) := by omega
  have m6 : (j32 : Int) ≤ (j64 : Int) := by omega
  have m7 : (j64 : Int) ≤ (cK : Int) := by omega
  have m8 : ¬ cK = j32 := by omega
  have m9 : j64 - j32 = 32 := by omega
  have hj0 : ¬ (j : Int) < 0 := by omega
  have hjNI : ¬ (N : Int) ≤ (j : Int) := by omega
  clear hN hL hm hLn eK1 eKn eK2 hcapn hcapm hKs hKb hgk hbK hcK hj32 hj64 h _ht hcKL
  go_enter Tryd.func47, Tryd.ntmps47
  go_wp2_with (refine HLN.mono ?_; rintro e w' ⟨rfl, rfl⟩)
  clear HLN
  go_loop [5, 6] (fun ov iv => ∃ (k : Nat) (A : Option Addr) (c : Nat), k ≤ m ∧ iv = .int .i64 k ∧ ov = .slice A 32 c ∧ BIn w A (Dk.seen j (Dk.blk d.kept j) (d.st.take k))) (fun _ iv => m - (intOf iv).toNat)
  case atStart => exact ⟨0, some ⟨gk, j32, none⟩, cK - j32, Nat.zero_le _, rfl, rfl, HB0.out⟩
  case round =>
    obtain ⟨k, A, c, hk, rfl, rfl, hbin⟩ := hrel
    have hk0 : (0 : Int) ≤ (k : Int) := by omega
    by_cases hlt : k < m
    · have hkl : k < d.st.length := by have := HM.out; omega
      obtain ⟨g, hg, hgl, hrange⟩ := range_r HR.out hkl
      have hgs : k < b.gs.length := by rw [HR.out.gl]; exact hkl
      have hgb := HR.out.gb k hkl
      have HSN : Hid (Dk.seen j (Dk.blk d.kept j) (d.st.take (k + 1)) = if d.st[k].1 = j then d.st[k].2 else Dk.seen j (Dk.blk d.kept j) (d.st.take k)) := Lib.hid (by rw [List.take_succ_eq_append_getElem hkl, Dk.seen_snoc])
      obtain ⟨gb, hgbe⟩ : ∃ gb, gb = b.gs[k]'hgs := ⟨_, rfl⟩
      rw [← hgbe] at hrange hgb
      obtain ⟨⟨at0, y⟩, hs⟩ : ∃ s, s = d.st[k] := ⟨_, rfl⟩
      rw [← hs] at hrange HSN hgb
      dsimp only at hrange HSN hgb
      have q0 := hrange 0 (.int .i64 (at0 : Int)) rfl
      have q1 := hrange 1 (.slice (some ⟨gb, 0, none⟩) 32 32) rfl
      rw [Nat.add_zero] at q0
      have HGB := Lib.hid hgb
      have HBIN := Lib.hid hbin
      rw [hg] at p1
      have hkI : (k : Int) < (m : Int) := by omega
      clear hs hkl hgb hgbe hg hrange hbin hgs
      by_cases he : at0 = j
      · rw [if_pos he] at HSN
        have he1 : ((at0 : Int) == (j : Int)) = true := by simp; omega
        have HEE := Lib.hid he
        clear he
        go_wp2_with fail
        go_round
        case rel => exact ⟨k + 1, some ⟨gb, 0, none⟩, 32, by omega, by go_num, rfl, by rw [HSN.out]; exact cB_in HGB.out⟩
        case measure => simp [intOf]; omega
      · rw [if_neg he] at HSN
        have he1 : ((at0 : Int) == (j : Int)) = false := by simp; omega
        have he3 : ¬ (at0 : Int) = (j : Int) := by omega
        clear he
        go_wp2_with fail
        go_round
        case rel => exact ⟨k + 1, A, c, by omega, by go_num, rfl, by rw [HSN.out]; exact HBIN.out⟩
        case measure => simp [intOf]; omega
    · have hkI : ¬ (k : Int) < (m : Int) := by omega
      have HE : Hid (BIn w A (Dk.seen j (Dk.blk d.kept j) d.st)) := Lib.hid (by
        have := HM.out
        rw [List.take_of_length_le (by omega)] at hbin
        exact hbin)
      clear hbin
      go_wp2_with fail
      go_ret
      first | exact ⟨⟨A, c, rfl, HE.out⟩, rfl⟩ | exact ⟨⟨A, ⟨c, rfl⟩, HE.out⟩, rfl⟩

theorem ref_read_none (w : World) (b : Rm) (d : Dk.D) (i : Int) (h : RAt w b d) (hi : i < 0 ∨ (d.n : Int) ≤ i) :
    Calls Tryd.prog 47 #[.pointer (some ⟨b.P, 0, none⟩), .int .i64 i] w fun e w' => e = .returned (.slice none 0 0) ∧ w = w' := by
  have HLN := ref_len_any w b d h
  by_cases h0 : i < 0
  · clear HLN
    go_enter Tryd.func47, Tryd.ntmps47
    go_wp2_with fail
    go_ret
    exact ⟨rfl, rfl⟩
  · have h1 : (d.n : Int) ≤ i := by omega
    clear hi
    go_enter Tryd.func47, Tryd.ntmps47
    go_wp2_with (refine HLN.mono ?_; rintro e w' ⟨rfl, rfl⟩)
    go_ret
    exact ⟨rfl, rfl⟩
end Go.Proofs.YtfceljbmdcbciaaDoor
namespace Go.Proofs.YtfceljbmdcbciaaDoor
set_option maxRecDepth 8000
open Go.RowKit

abbrev SD0 (w : World) (P : Nat) (d : Dk.D) : Prop := SD 0 w P d
section
variable {w : World} {P : Nat} {d : Dk.D}
theorem areaBlocks_any (h : SD0 w P d) (h2 : 2 ≤ d.n) : Calls Tryd.prog 102 #[.pointer (some ⟨P, 0, none⟩)] w fun e w' => e = .returned (.int .i64 (Wl.areaBlocks d.n : Int)) ∧ w = w' := by
  have HL := Lib.hid (len_sd h)
  have hn := h.ok.n
  obtain ⟨n, hn0⟩ : ∃ n, n = d.n := ⟨_, rfl⟩
  rw [← hn0] at HL hn h2 ⊢
  have e1 : IntKind.i64.wrap ((n : Int) - 2) = (n : Int) - 2 := IntWalk.i64_in _ (by omega)
  go_enter Tryd.func102, Tryd.ntmps102
  go_wp2_with fail
  refine HL.out.mono ?_
  rintro _ _ ⟨rfl, rfl⟩
  go_wp2_with fail
  go_ret
  exact ⟨ret_int (by unfold Wl.areaBlocks; omega), rfl⟩
theorem areaBytes_any (h : SD0 w P d) (h2 : 2 ≤ d.n) : Calls Tryd.prog 72 #[.pointer (some ⟨P, 0, none⟩)] w fun e w' => e = .returned (.int .i64 (Wl.areaBytes d.n : Int)) ∧ w = w' := by
  have HL := Lib.hid (areaBlocks_any h h2)
  have hn := h.ok.n
  obtain ⟨q, hq⟩ : ∃ q, q = Wl.areaBlocks d.n := ⟨_, rfl⟩
  have hql : q ≤ 512 := by rw [hq]; unfold Wl.areaBlocks; omega
  unfold Wl.areaBytes
  rw [← hq] at HL ⊢
  go_enter Tryd.func72, Tryd.ntmps72
  go_wp2_with fail
  refine HL.out.mono ?_
  rintro _ _ ⟨rfl, rfl⟩
  go_wp2_with fail
  go_ret
  exact ⟨ret_int (by omega), rfl⟩
theorem areaStart_any (h : SD0 w P d) (h2 : 2 ≤ d.n) (a : Nat) (ha : a ≤ 1) : Calls Tryd.prog 75 #[.pointer (some ⟨P, 0, none⟩), .int .i64 (a : Int)] w fun e w' => e = .returned (.int .i64 (Wl.start d.n a : Int)) ∧ w = w' := by
  have HL := Lib.hid (areaBlocks_any h h2)
  have hn := h.ok.n
  obtain ⟨q, hq⟩ : ∃ q, q = Wl.areaBlocks d.n := ⟨_, rfl⟩
  have hql : q ≤ 512 := by rw [hq]; unfold Wl.areaBlocks; omega
  unfold Wl.start
  rw [← hq] at HL ⊢
  have : a = 0 ∨ a = 1 := by omega
  rcases this with rfl | rfl
  all_goals
    go_enter Tryd.func75, Tryd.ntmps75
    go_wp2_with fail
    refine HL.out.mono ?_
    rintro _ _ ⟨rfl, rfl⟩
    go_wp2_with fail
    go_ret
    exact ⟨ret_int (by omega), rfl⟩
end
theorem place_any (w : World) (g : Nat) (hg : g ≤ 1048576) : Calls Tryd.prog 98 #[.int .i64 (g : Int)] w fun e w' => e = .returned (.int .i64 ((g % 2 : Nat) : Int)) ∧ w = w' := by
  go_enter Tryd.func98, Tryd.ntmps98
  go_wp2_with fail
  go_ret
  exact ⟨ret_int (by omega), rfl⟩
def FourPost (w : World) (n : Nat) (e : Ending) (w' : World) : Prop := e = .returned (.slice (some ⟨w.heap.size, 0, none⟩) 4 4) ∧ w' = w.alloc (.cells ((Fr.be4 n).map B).toArray 5 (0, 0))
theorem four_any (w : World) (n : Nat) (hn : n < 4294967296) : Calls Tryd.prog 117 #[U n] w (FourPost w n) := by
  have hbytes4 : (.cells #[.int .u8 ((n : Int) / 16777216), .int .u8 ((n : Int) / 65536 % 256), .int .u8 ((n : Int) / 256 % 256), .int .u8 ((n : Int) % 256)] 5 (0, 0) : Obj) = .cells ((Fr.be4 n).map B).toArray 5 (0, 0) := by
    have h1 : ((n : Int) / 16777216) = ((UInt8.ofNat (n / 16777216)).toNat : Int) := by rw [UInt8.toNat_ofNat']; omega
    have h2 : ((n : Int) / 65536 % 256) = ((UInt8.ofNat (n / 65536)).toNat : Int) := by rw [UInt8.toNat_ofNat']; omega
    have h3 : ((n : Int) / 256 % 256) = ((UInt8.ofNat (n / 256)).toNat : Int) := by rw [UInt8.toNat_ofNat']; omega
    have h4 : ((n : Int) % 256) = ((UInt8.ofNat n).toNat : Int) := by rw [UInt8.toNat_ofNat']; omega
    rw [h1, h2, h3, h4]
    rfl
  have HBY4 := Lib.hid hbytes4
  clear hbytes4
  go_enter Tryd.func117, Tryd.ntmps117
  go_wp2_with fail
  rw [HBY4.out]
  go_ret
  exact ⟨rfl, rfl⟩
/-- What the first four bytes tell. -/
theorem number_any (w : World) (A : Option Addr) (c n : Nat) (l : List UInt8) (hn : l.length = n) (h4 : 4 ≤ n) (hb : BC w A l) :
    Calls Tryd.prog 103 #[.slice A n c] w fun e w' => e = .returned (U (Wl.num l)) ∧ ∃ n, w' = w.drewN n := by
  obtain ⟨b, off, rfl, hc⟩ := hb (by omega)
  obtain ⟨p, q, r, s, t, rfl⟩ : ∃ p q r s t, l = p :: q :: r :: s :: t := by
    match l, hn with
    | p :: q :: r :: s :: t, _ => exact ⟨p, q, r, s, t, rfl⟩
    | [], hn => simp at hn; omega
    | [_], hn => simp at hn; omega
    | [_, _], hn => simp at hn; omega
    | [_, _, _], hn => simp at hn; omega
  have c0 := hc 0 (by simp)
  have c1 := hc 1 (by simp)
  have c2 := hc 2 (by simp)
  have c3 := hc 3 (by simp)
  rw [Nat.add_zero] at c0
  simp only [List.getElem_cons_zero, List.getElem_cons_succ] at c0 c1 c2 c3
  have hp := Cr.u8_lt p
  have hq := Cr.u8_lt q
  have hr := Cr.u8_lt r
  have hs := Cr.u8_lt s
  have HN : Hid (Wl.num (p :: q :: r :: s :: t) = p.toNat * 16777216 + q.toNat * 65536 + r.toNat * 256 + s.toNat) := Lib.hid rfl
  have w1 := wrap_u8_u32 p
  have w2 := wrap_u8_u32 q
  have w3 := wrap_u8_u32 r
  have w4 := wrap_u8_u32 s
  rw [B] at c0 c1 c2 c3
  obtain ⟨x0, hx0⟩ : ∃ x, x = p.toNat := ⟨_, rfl⟩
  obtain ⟨x1, hx1⟩ : ∃ x, x = q.toNat := ⟨_, rfl⟩
  obtain ⟨x2, hx2⟩ : ∃ x, x = r.toNat := ⟨_, rfl⟩
  obtain ⟨x3, hx3⟩ : ∃ x, x = s.toNat := ⟨_, rfl⟩
  rw [← hx0] at c0 hp w1 HN
  rw [← hx1] at c1 hq w2 HN
  rw [← hx2] at c2 hr w3 HN
  rw [← hx3] at c3 hs w4 HN
  have or_add : ∀ (a b k : Nat), b < 2 ^ k → a * 2 ^ k ||| b = a * 2 ^ k + b := fun a b k h => by
    have := Nat.shiftLeft_add_eq_or_of_lt h a
    rw [Nat.shiftLeft_eq] at this
    exact this.symm
  have b1 : bits .or .u32 ((x0 : Int) * 16777216) ((x1 : Int) * 65536) = ((x0 * 16777216 + x1 * 65536 : Nat) : Int) := by
    rw [show ((x0 : Int) * 16777216) = ((x0 * 16777216 : Nat) : Int) by omega, show ((x1 : Int) * 65536) = ((x1 * 65536 : Nat) : Int) by omega, u32_or_nat _ _ (by omega) (by omega)]
    congr 1
    exact or_add x0 (x1 * 65536) 24 (by omega)
  obtain ⟨y1, hy1⟩ : ∃ y, y = x0 * 16777216 + x1 * 65536 := ⟨_, rfl⟩
  rw [← hy1] at b1
  have b2 : bits .or .u32 (y1 : Int) ((x2 : Int) * 256) = ((y1 + x2 * 256 : Nat) : Int) := by
    rw [show ((x2 : Int) * 256) = ((x2 * 256 : Nat) : Int) by omega, u32_or_nat _ _ (by omega) (by omega)]
    congr 1
    have := or_add (x0 * 256 + x1) (x2 * 256) 16 (by omega)
    rw [show (x0 * 256 + x1) * 2 ^ 16 = y1 by omega] at this
    exact this
  obtain ⟨y2, hy2⟩ : ∃ y, y = y1 + x2 * 256 := ⟨_, rfl⟩
  rw [← hy2] at b2
  have b3 : bits .or .u32 (y2 : Int) (x3 : Int) = ((y2 + x3 : Nat) : Int) := by
    rw [u32_or_nat _ _ (by omega) (by omega)]
    congr 1
    have := or_add (x0 * 65536 + x1 * 256 + x2) x3 8 (by omega)
    rw [show (x0 * 65536 + x1 * 256 + x2) * 2 ^ 8 = y2 by omega] at this
    exact this
  have HE : Hid (y2 + x3 = Wl.num (p :: q :: r :: s :: t)) := Lib.hid (by rw [HN.out]; omega)
  obtain ⟨y3, hy3⟩ : ∃ y, y = y2 + x3 := ⟨_, rfl⟩
  rw [← hy3] at b3 HE
  clear or_add hc HN hx0 hx1 hx2 hx3 hy1 hy2 hy3 hb
  obtain ⟨L, hL⟩ : ∃ L, L = p :: q :: r :: s :: t := ⟨_, rfl⟩
  rw [← hL] at HE hn ⊢
  clear hL hn
  have k0 : (0 : Int) < (n : Int) := by omega
  have k1 : (1 : Int) < (n : Int) := by omega
  have k2 : (2 : Int) < (n : Int) := by omega
  have k3 : (3 : Int) < (n : Int) := by omega
  go_enter Tryd.func103, Tryd.ntmps103
  rw [← HE.out]
  go_wp2
  go_region
  go_wp2
  go_ret
  exact ⟨rfl, 1, rfl⟩
end Go.Proofs.YtfceljbmdcbciaaDoor
