/- What the calls Write and Read of the document's own disk do. Conditions: at most 1048575 blocks staged. Plain functions of the log of records (heads, what is found, the calls of the disk that an Append or a Replace makes) and what a head that is torn can be; no program stands in it. No condition. -/
import Derived.Test.YtkmljbbnpjlehaaDoorMg19
import Derived.Test.YtkmljbbnpjlehaaDoorMg16
import Derived.Test.YtkmljbbnpjlehaaDoorMg04
namespace Go.Proofs.YtkmljbbnpjlehaaDoor
set_option maxRecDepth 8000
open Go.RowKit

theorem Tryd.infoRStaged : (Tryd.prog.info? 118).map (fun i => (i.zero, i.size, i.bytes)) = some (some (.agg #[.int .i64 0, .slice none 0 0]), 2, 32) := by kernel_rfl
theorem pad_set (l : List UInt8) (k : Nat) (hk : k < l.length) (h32 : l.length ≤ 32) : (bcs (l.take k ++ List.replicate (32 - k) 0)).toArray.setIfInBounds k (B l[k]) = (bcs (l.take (k + 1) ++ List.replicate (32 - (k + 1)) 0)).toArray := by
  have e1 : List.replicate (32 - k) (0 : UInt8) = 0 :: List.replicate (32 - (k + 1)) 0 := by rw [show 32 - k = (32 - (k + 1)) + 1 by omega]; rfl
  have e2 : l.take (k + 1) = l.take k ++ [l[k]] := List.take_succ_eq_append_getElem hk
  have e3 : (l.take k).length = k := by rw [List.length_take]; omega
  rw [e1, e2, List.setIfInBounds_toArray]
  congr 1
  simp only [bcs, List.map_append, List.map_cons, List.map_replicate, List.map_nil]
  rw [List.set_append_right _ _ (by rw [List.length_map, e3]; exact Nat.le_refl _), List.length_map, e3, Nat.sub_self, List.set_cons_zero, List.append_assoc]
  rfl
theorem rcs_len : ∀ (l : List (Nat × List UInt8)) (gs : List Nat), gs.length = l.length → (rcs l gs).length = l.length * 2
  | [], gs, h => by cases gs <;> simp_all [rcs]
  | s :: l, [], h => by simp at h
  | s :: l, g :: gs, h => by
    unfold rcs
    rw [List.length_append, rcs_len l gs (by simpa using h)]
    simp [rc1]
    omega
theorem rcs_snoc : ∀ (l : List (Nat × List UInt8)) (gs : List Nat) (s : Nat × List UInt8) (g : Nat), gs.length = l.length → rcs (l ++ [s]) (gs ++ [g]) = rcs l gs ++ rc1 s.1 g
  | [], [], s, g, _ => by simp [rcs]
  | [], _ :: _, _, _, h => by simp at h
  | x :: l, [], s, g, h => by simp at h
  | x :: l, y :: gs, s, g, h => by
    rw [List.cons_append, List.cons_append]
    unfold rcs
    rw [rcs_snoc l gs s g (by simpa using h), List.append_assoc]
theorem rcs_one : ∀ (l : List (Nat × List UInt8)) (gs : List Nat), ∀ v ∈ rcs l gs, v.oneCell' = true
  | [], [], v, h => by cases h
  | [], _ :: _, v, h => by cases h
  | _ :: _, [], v, h => by cases h
  | s :: l, g :: gs, v, h => by
    unfold rcs at h
    rcases List.mem_append.1 h with h | h
    · unfold rc1 at h
      simp at h
      rcases h with rfl | rfl <;> rfl
    · exact rcs_one l gs v h

/-- One more block is staged. -/
theorem r_push {w1 w3 : World} {b1 : Rm} {d1 : Dk.D} {l : List UInt8} {j gx m s cap3 : Nat} {A3 : Option Addr} {u : Value} (h : RAt w1 b1 d1) (ht : RThere w1 b1) (hsep : Sep b1) (hb : Below w1.heap.size w1 w3) (hj : j < d1.n) (hl : l.length ≤ 32)
    (hgx : w3.heap[gx]? = some (.cells (cB (Dk.pad l)) 5 (0, 0))) (hgx1 : w1.heap.size ≤ gx) (hm : m = d1.st.length) (hO : w3.ownsRow s 118 2 (.slice A3 (m + 1) cap3) (m + 1) (rcs d1.st b1.gs ++ rc1 j gx)) (hs : w1.heap.size ≤ s) (hu : u = .slice A3 (m + 1) cap3) :
    RStep w1 b1 { d1 with st := d1.st ++ [(j, Dk.pad l)] } (w3.setCell ⟨b1.P, 1, none⟩ u) := by
  subst hu
  have h3 : RAt w3 b1 d1 := h.same (fun x hx => hb.block x (ht.all x hx))
  have hPl := ht.all b1.P (rbmem.1 rfl)
  have hoth : ∀ x, x ≠ b1.P → (w3.setCell ⟨b1.P, 1, none⟩ (.slice A3 (m + 1) cap3)).heap[x]? = w3.heap[x]? := fun x hx => setP_other w3 b1.P 1 _ x hx
  have hA3 : ∀ x ∈ blkOf A3, s ≤ x ∧ x < w3.heap.size := by
    obtain ⟨A', cap', e, _, _, _, hblk⟩ := own_form hO
    injection e with e1 _ _
    rw [e1]
    exact fun x hx => ⟨(hblk x hx).1, (hblk x hx).2.1⟩
  have hlen : (d1.st ++ [(j, Dk.pad l)]).length = m + 1 := by rw [List.length_append, hm]; rfl
  refine ⟨{ b1 with S := A3, cS := cap3, gs := b1.gs ++ [gx] }, rfl, ⟨⟨h.ok.n, h.ok.kept, fun x hx => ?_⟩, ?_, ?_, ?_, ?_, fun k hk => ?_, ?_, h.cap, h.left⟩, ⟨fun x hx => ?_⟩, fun x hx => ?_, ?_, fun x hx => ?_⟩
  · rcases List.mem_append.1 hx with hx | hx
    · exact h.ok.st x hx
    · rw [List.mem_singleton] at hx
      subst hx
      exact ⟨hj, Dk.pad_len l hl⟩
  · rw [setP_heap h3.disk 1 _]
    dsimp only
    rw [hlen]
    rfl
  · exact own_block h3.kept (fun x hx => hoth x (fun e => h.PK (e ▸ hx)))
  · dsimp only
    rw [hlen, rcs_snoc _ _ _ _ h.gl]
    exact own_base (own_block hO (fun x hx => hoth x (fun e => by have := (hA3 x hx).1; omega)))
  · dsimp only
    rw [List.length_append, List.length_append, h.gl]
    rfl
  · dsimp only
    by_cases hkm : k < d1.st.length
    · have hkg : k < b1.gs.length := by rw [h.gl]; exact hkm
      rw [List.getElem_append_left hkg, List.getElem_append_left hkm, hoth _ (fun e => h.Pg (e ▸ List.getElem_mem _))]
      exact h3.gb k hkm
    · have hk2 : k = d1.st.length := by
        dsimp only at hk
        rw [hlen] at hk
        omega
      subst hk2
      have e1 : (b1.gs ++ [gx])[d1.st.length]'(by rw [List.length_append, h.gl]; simp) = gx := by
        rw [List.getElem_append_right (by rw [h.gl]; exact Nat.le_refl _)]
        simp
      have e2 : (d1.st ++ [(j, Dk.pad l)])[d1.st.length]'(by simp) = (j, Dk.pad l) := by
        rw [List.getElem_append_right (Nat.le_refl _)]
        simp
      rw [e1, e2, hoth gx (by omega)]
      exact hgx
  · exact h3.plan.past h3.disk (by decide) (fun x _ hx => hoth x hx)
  · rw [World.size_setCell]
    rcases (mem_R _ _).1 hx with hx | hx | hx | hx | hx
    · exact Nat.lt_of_lt_of_le (ht.all x (rbmem.1 hx)) hb.size
    · exact Nat.lt_of_lt_of_le (ht.all x (rbmem.2.1 hx)) hb.size
    · exact (hA3 x hx).2
    · exact Nat.lt_of_lt_of_le (ht.all x (rbmem.2.2.2.1 hx)) hb.size
    · rcases List.mem_append.1 hx with hx | hx
      · exact Nat.lt_of_lt_of_le (ht.all x (rbmem.2.2.2.2 hx)) hb.size
      · rw [List.mem_singleton] at hx
        rw [hx]
        exact lt_of_blk' hgx
  · rcases List.mem_append.1 hx with hx | hx
    · exact hsep x hx
    · rw [List.mem_singleton] at hx
      subst hx
      intro hk
      have := ht.all x (rbmem.2.1 hk)
      omega
  · exact (OutP.of (F := fun x => x ∈ b1.F) hb).set _ (rbmem.1 rfl)
  · rcases (mem_R _ _).1 hx with hx | hx | hx | hx | hx
    · exact .inl (rbmem.1 hx)
    · exact .inl (rbmem.2.1 hx)
    · exact .inr (Nat.le_trans hs (hA3 x hx).1)
    · exact .inl (rbmem.2.2.2.1 hx)
    · rcases List.mem_append.1 hx with hx | hx
      · exact .inl (rbmem.2.2.2.2 hx)
      · rw [List.mem_singleton] at hx
        exact .inr (by rw [hx]; exact hgx1)

set_option maxHeartbeats 3200000 in
theorem ref_write_any (w : World) (b : Rm) (d : Dk.D) (i : Int) (A : Option Addr) (cap : Nat) (l : List UInt8) (h : RAt w b d) (ht : RThere w b) (hsep : Sep b) (hst : d.st.length ≤ 1048575) (hl : l.length ≤ 9223372036854775807) (hA : BIn w A l) (hF : 0 < l.length → ∀ ad, A = some ad → ad.block ∉ b.F) :
    Calls Tryd.prog 120 #[.pointer (some ⟨b.P, 0, none⟩), .int .i64 i, .slice A l.length cap] w (RInt w b (d.writeE i l) (d.write i l)) := by
  obtain ⟨i0, hi0, hz0, hz1, hz2⟩ := info_parts Tryd.infoRStaged
  have HLN := ref_len_any w b d h
  have HFA := ref_fails_any w b d h ht hsep
  by_cases hi0' : i < 0
  · have HE : Hid (RInt w b (d.writeE i l) (d.write i l) (.returned (.int .i64 4)) w) := Lib.hid (by
      unfold Dk.D.writeE Dk.D.write
      rw [if_pos (.inl hi0'), if_pos (.inl hi0')]
      exact ⟨rfl, RStep.quiet h ht hsep (Below.refl _ _)⟩)
    clear HFA HLN
    go_enter Tryd.func120, Tryd.ntmps120
    go_wp2_with fail
    go_ret
    exact HE.out
  obtain ⟨N, hN⟩ : ∃ N, N = d.n := ⟨_, rfl⟩
  rw [← hN] at HLN
  by_cases hiN : (N : Int) ≤ i
  · have HE : Hid (RInt w b (d.writeE i l) (d.write i l) (.returned (.int .i64 4)) w) := Lib.hid (by
      unfold Dk.D.writeE Dk.D.write
      rw [if_pos (.inr (by rw [← hN]; exact hiN)), if_pos (.inr (by rw [← hN]; exact hiN))]
      exact ⟨rfl, RStep.quiet h ht hsep (Below.refl _ _)⟩)
    clear HFA hN
    go_enter Tryd.func120, Tryd.ntmps120
    go_wp2_with (refine HLN.mono ?_; rintro e w' ⟨rfl, rfl⟩)
    go_ret
    exact HE.out
  have hin : ¬ (i < 0 ∨ (d.n : Int) ≤ i) := by rw [← hN]; omega
  by_cases hlen : 32 < l.length
  · have HE : Hid (RInt w b (d.writeE i l) (d.write i l) (.returned (.int .i64 2)) w) := Lib.hid (by
      unfold Dk.D.writeE Dk.D.write
      rw [if_neg hin, if_neg hin, if_pos hlen, if_pos hlen]
      exact ⟨rfl, RStep.quiet h ht hsep (Below.refl _ _)⟩)
    have hlI : (32 : Int) < (l.length : Int) := by omega
    clear HFA hN hin hlen
    go_enter Tryd.func120, Tryd.ntmps120
    go_wp2_with (refine HLN.mono ?_; rintro e w' ⟨rfl, rfl⟩)
    go_ret
    exact HE.out
  have hlI : ¬ (32 : Int) < (l.length : Int) := by omega
  cases hb : d.bad with
  | true =>
    have HE : Hid (∀ w', RStep w b d.asked w' → RInt w b (d.writeE i l) (d.write i l) (.returned (.int .i64 21)) w') := Lib.hid (fun w' hs => by
      unfold Dk.D.writeE Dk.D.write
      rw [if_neg hin, if_neg hin, if_neg hlen, if_neg hlen, hb, if_pos rfl, if_pos rfl]
      exact ⟨rfl, hs⟩)
    rw [hb] at HFA
    clear hN hin hb hlen
    go_enter Tryd.func120, Tryd.ntmps120
    go_wp2_with (refine HLN.mono ?_; rintro e w' ⟨rfl, rfl⟩)
    refine HFA.mono ?_
    rintro e w' ⟨rfl, hs⟩
    have HE2 := Lib.hid (HE.out _ hs)
    clear hs
    go_wp2
    go_ret
    exact HE2.out
  | false =>
    obtain ⟨j, rfl⟩ := Int.eq_ofNat_of_zero_le (show 0 ≤ i by omega)
    have HE : Hid (∀ w', RStep w b { d.asked with st := d.asked.st ++ [(j, Dk.pad l)] } w' → RInt w b (d.writeE (j : Int) l) (d.write (j : Int) l) (.returned (.int .i64 0)) w') := Lib.hid (fun w' hs => by
      unfold Dk.D.writeE Dk.D.write
      rw [if_neg hin, if_neg hin, if_neg hlen, if_neg hlen, hb]
      rw [Dk.asked_st, Int.toNat_natCast] at *
      exact ⟨rfl, hs⟩)
    rw [hb] at HFA
    have hst1 : d.asked.st.length ≤ 1048575 := by rw [Dk.asked_st]; exact hst
    have hjn1 : j < d.asked.n := by rw [Dk.asked_n]; omega
    have hAK : ∀ w1, OutP (fun x => x ∈ b.F) w w1 → BIn w1 A l := fun w1 ho hn => by
      obtain ⟨bb, off, e, hlt, hc⟩ := hA hn
      exact ⟨bb, off, e, Nat.lt_of_lt_of_le hlt ho.size, fun k hk => (World.cell?_of_block (w := w) (w' := w1) (a := ⟨bb, off + k, none⟩) (ho.block bb hlt (hF hn _ e))).trans (hc k hk)⟩
    obtain ⟨d1, hd1⟩ : ∃ d1, d1 = d.asked := ⟨_, rfl⟩
    rw [← hd1] at HE HFA hst1 hjn1
    obtain ⟨n, hn⟩ : ∃ n, n = l.length := ⟨_, rfl⟩
    rw [← hn] at hlI ⊢
    have hn32 : n ≤ 32 := by omega
    have HN := Lib.hid hn
    have HAK := Lib.hid hAK
    have HJN := Lib.hid hjn1
    clear hd1 hN hin hb hlen hst hl hA hF hAK hn h ht hsep hjn1
    go_enter Tryd.func120, Tryd.ntmps120
    go_wp2_with (refine HLN.mono ?_; rintro e w' ⟨rfl, rfl⟩)
    refine HFA.mono ?_
    rintro e w1 ⟨rfl, b1, hP1, hat1, ht1, hs1, ho1, hF1⟩
    have hBA := HAK.out w1 ho1
    have HBA := Lib.hid hBA
    have HR1 := Lib.hid hat1
    have HT1 := Lib.hid ht1
    have HS1 := Lib.hid hs1
    have HO1 := Lib.hid ho1
    have HF1 := Lib.hid hF1
    have HP1 := Lib.hid hP1
    have HMK : (Instr.makeSlice 36 (.int .i64 32) (.int .i64 32)).run Tryd.prog w1 = .ok (.slice (some ⟨w1.heap.size, 0, none⟩) 32 32) (w1.alloc (.cells (bcs (List.replicate 32 0)).toArray 5)) := make_bytes w1 32 (by omega)
    obtain ⟨z, hz⟩ : ∃ z, z = (bcs (List.replicate 32 0)).toArray := ⟨_, rfl⟩
    rw [← hz] at HMK
    have HZ := Lib.hid hz
    clear hz hBA hat1 ht1 hs1 ho1 hF1 hP1 HFA HLN HAK
    go_wp2_with fail
    clear HMK
    obtain ⟨gx, hgx⟩ : ∃ g, g = w1.heap.size := ⟨_, rfl⟩
    rw [← hgx]
    have HGX := Lib.hid hgx
    clear hgx
    go_loopw [9] (fun iv wr => ∃ k : Nat, k ≤ n ∧ iv = .int .i64 k ∧ wr.heap[gx]? = some (.cells (bcs (l.take k ++ List.replicate (32 - k) 0)).toArray 5 (0, 0)) ∧ Below w1.heap.size w1 wr) (fun iv _ => n - (intOf iv).toNat)
    case atStart => exact ⟨0, Nat.zero_le _, rfl, by rw [HGX.out, List.take_zero, List.nil_append, HZ.out]; exact heap_alloc_new w1 _, (Below.refl _ _).alloc (Nat.le_refl _) _⟩
    case round =>
      obtain ⟨k, hk, rfl, hgb, hbr⟩ := hrel
      have hk0 : (0 : Int) ≤ (k : Int) := by omega
      by_cases hlt : k < n
      · have hkI : (k : Int) < (n : Int) := by omega
        have hk32 : (k : Int) < 32 := by omega
        have hkl : k < l.length := by have := HN.out; omega
        obtain ⟨bb, off, rfl, hbb, hcell⟩ := HBA.out (by omega)
        have hc0 : wr.cell? ⟨bb, off + k, none⟩ = some (B l[k]) := by rw [hbr.cell (p := ⟨bb, off + k, none⟩) hbb]; exact hcell k hkl
        obtain ⟨x, hx⟩ : ∃ x, x = l[k].toNat := ⟨_, rfl⟩
        have HX : Hid (Value.int .u8 (x : Int) = B l[k]) := Lib.hid (by rw [hx])
        unfold B at hc0
        rw [← hx] at hc0
        have hfr := frozen_of_row wr gx k _ _ hgb
        have hce : wr.cell? ⟨gx, k, none⟩ = some (.int .u8 0) := by
          rw [cell_of_row wr gx k _ _ _ hgb]
          unfold bcs
          rw [List.getElem?_toArray, List.getElem?_map, List.getElem?_append_right (by rw [List.length_take]; omega), List.length_take, List.getElem?_replicate, if_pos (by omega)]
          rfl
        have HGB := Lib.hid hgb
        have HPS := Lib.hid (pad_set l k hkl (by rw [← HN.out]; exact hn32))
        have hsw : w1.heap.size ≤ gx := by rw [HGX.out]; exact Nat.le_refl _
        clear hgb hcell hx hbb
        go_wp2_with fail
        go_roundw
        case rel =>
          refine ⟨k + 1, by omega, by go_num, ?_, hbr.setCell (p := ⟨gx, k, none⟩) hsw _⟩
          rw [setP_heap HGB.out k, HX.out, HPS.out]
        case measure => simp [intOf]; omega
      · have hkI : ¬ (k : Int) < (n : Int) := by omega
        have hgb2 : wr.heap[gx]? = some (.cells (cB (Dk.pad l)) 5 (0, 0)) := by
          rw [show k = n by omega, HN.out, List.take_of_length_le (Nat.le_refl _)] at hgb
          exact hgb
        obtain ⟨wA, hwA⟩ : ∃ wA, wA = wr := ⟨wr, rfl⟩
        subst hwA
        have HGB := Lib.hid hgb2
        have HBR := Lib.hid hbr
        have HRA := Lib.hid (HR1.out.same (fun x hx => hbr.block x (HT1.out.all x hx)))
        have c1 := HRA.out.c.2.1
        have f1 := HRA.out.fr 1
        obtain ⟨m, hm⟩ : ∃ m, m = d1.st.length := ⟨_, rfl⟩
        rw [← hm] at c1 hst1
        have HM := Lib.hid hm
        rw [HP1.out] at c1 f1
        have HXL : Hid ((rcs d1.st b1.gs).length = m * 2) := Lib.hid (by rw [rcs_len _ _ HRA.out.gl, hm])
        have HONE := Lib.hid (rcs_one d1.st b1.gs)
        have HCE : Hid (0 < m → ∃ ad, b1.S = some ad ∧ ∀ jj u, (rcs d1.st b1.gs)[jj]? = some u → (wA.alloc (.cells #[] 118)).cell? (ad.add jj) = some u) := Lib.hid (fun h0 => by
          obtain ⟨A', cap', e, _, _, hA', hblk⟩ := own_form HRA.out.st
          injection e with e1 _ _
          obtain ⟨g, hg⟩ := hA' (by rw [← hm]; exact h0)
          rw [hg] at e1
          refine ⟨_, e1, fun jj u hu => ?_⟩
          have := (HRA.out.st.alloc (.cells #[] 118)).cells (g := g) (by rw [e1]; rfl) jj u hu
          exact this)
        obtain ⟨xs, hxs⟩ : ∃ xs, xs = rcs d1.st b1.gs := ⟨_, rfl⟩
        rw [← hxs] at HXL HONE HCE
        have HXS := Lib.hid hxs
        have hPl : b.P < w1.heap.size := by rw [← HP1.out]; exact HT1.out.all _ (rbmem.1 rfl)
        have hPA : b.P < wA.heap.size := Nat.lt_of_lt_of_le hPl hbr.size
        have cAl : ∀ o : Obj, (wA.alloc o).cell? ⟨b.P, 1, none⟩ = some (.slice b1.S m b1.cS) := fun o => (World.cell?_alloc_lt wA _ _ hPA).trans c1
        clear hgb hgb2 hbr hm hxs hk hlt
        go_wp2_with (first
          | ((with_reducible refine wpList_append_gen (o := ⟨some 44, _, _, _, _, _⟩) rfl (.tmp 39) (.tmp 43) 44 rfl wA.heap.size 118 i0 _ 2 32 Tryd.underlying44 hi0 hz0 hz1 hz2 rfl ?_ (.slice (some ⟨wA.heap.size, 0, none⟩) 0 0) 0 [] ?_ ?_ b1.S m b1.cS xs ?_ ?_ ?_ HONE.out ?_ ?_ ?_ ?_); exact (by omega); exact rfl; exact (own_empty wA _ _ _ (Nat.le_refl _) _ rfl); exact rfl; exact HXL.out; exact HCE.out; exact (by unfold maxLen; omega); exact (by omega); exact (by simp); intro v2 w2 hown2 hgrow2 hat2; rw [Nat.zero_add, List.nil_append] at hown2; obtain ⟨A2, cap2, rfl, _, _, _, _⟩ := own_form hown2; clear hat2; have HB2 := Lib.hid (((Below.refl wA.heap.size wA).alloc (Nat.le_refl _) _).grown hgrow2 (by simp) (fun q hq => by simp [Value.ownBlock] at hq; omega)); have HO2 := Lib.hid hown2; clear hgrow2 hown2)
          | ((with_reducible refine wpList_append_gen (o := ⟨some 49, _, _, _, _, _⟩) rfl (.tmp 44) (.tmp 48) 44 rfl wA.heap.size 118 i0 _ 2 32 Tryd.underlying44 hi0 hz0 hz1 hz2 rfl ?_ (.slice A2 m cap2) m xs ?_ ?_ (some ⟨w2.heap.size, 0, none⟩) 1 1 (rc1 j gx) ?_ ?_ ?_ ?_ ?_ ?_ ?_ ?_); exact (by omega); exact rfl; exact (HO2.out.alloc _); exact rfl; exact rfl; exact (fun _ => ⟨_, rfl, World.news_of_block (heap_alloc_new w2 _)⟩); exact (fun u hu => by unfold rc1 at hu; simp at hu; rcases hu with rfl | rfl <;> rfl); exact (by unfold maxLen; omega); exact (by omega); exact (by have := HB2.out.size; simp; omega); intro v3 w3 hown3 hgrow3 hat3; obtain ⟨A3, cap3, rfl, _, _, _, _⟩ := own_form hown3; clear hat3; have HB3 := Lib.hid ((HB2.out.alloc HB2.out.size _).grown hgrow3 (by have := HB2.out.size; simp; omega) (fun q hq => (World.ownsRow.lt HO2.out q hq).1)); have HO3 := Lib.hid hown3; clear hgrow3 hown3; have c13 : w3.cell? ⟨b.P, 1, none⟩ = some (.slice b1.S m b1.cS) := (HB3.out.cell (p := ⟨b.P, 1, none⟩) (Nat.lt_of_lt_of_le hPl HBR.out.size)).trans c1; have f13 : w3.frozen? ⟨b.P, 1, none⟩ = false := (by have h5 := HRA.out.same (fun x hx => HB3.out.block x (Nat.lt_of_lt_of_le (HT1.out.all x hx) HBR.out.size)); rw [← HP1.out]; exact h5.fr 1)))
        go_ret
        refine HE.out _ (RStep.after HP1.out HO1.out HF1.out ?_)
        rw [← HP1.out]
        exact r_push HR1.out HT1.out HS1.out (HBR.out.trans (HB3.out.mono HBR.out.size)) HJN.out (by rw [← HN.out]; exact hn32) ((HB3.out.block gx (lt_of_blk' HGB.out)).trans HGB.out) (by rw [HGX.out]; exact Nat.le_refl _) HM.out (by rw [← HXS.out]; exact HO3.out) HBR.out.size rfl

set_option maxHeartbeats 1600000 in
theorem ref_read_any (w : World) (b : Rm) (d : Dk.D) (j : Nat) (h : RAt w b d) (_ht : RThere w b) (hj : j < d.n) (hst : d.st.length ≤ 1048576) :
    Calls Tryd.prog 63 #[.pointer (some ⟨b.P, 0, none⟩), .int .i64 (j : Int)] w fun e w' => (∃ A c, e = .returned (.slice A 32 c) ∧ BIn w A (Dk.seen j (Dk.blk d.kept j) d.st)) ∧ w = w' := by
  have HLN := ref_len_any w b d h
  have p1 := h.c.2.1
  have p0 := h.c.1
  have hn := h.ok.n
  obtain ⟨N, hN⟩ : ∃ N, N = d.n := ⟨_, rfl⟩
  obtain ⟨L, hL⟩ : ∃ L, L = d.kept.length := ⟨_, rfl⟩
  obtain ⟨m, hm⟩ : ∃ m, m = d.st.length := ⟨_, rfl⟩
  have hLn : L = 32 * N := by rw [hL, hN]; exact h.ok.kept
  rw [← hN] at HLN hn
  rw [← hL] at p0
  rw [← hm] at p1 hst
  obtain ⟨K', cap', eK, hcapn, hcapm, hKs, hKb⟩ := own_form h.kept
  injection eK with eK1 eKn eK2
  obtain ⟨gk, hgk⟩ := hKs (by omega)
  have hbK : b.K = some ⟨gk, 0, none⟩ := by rw [eK1, hgk]
  rw [hbK] at p0
  have hjN : j < N := by rw [hN]; exact hj
  obtain ⟨cK, hcK⟩ : ∃ cK, cK = b.cK := ⟨_, rfl⟩
  rw [← hcK] at p0
  have hcKL : L ≤ cK := by rw [hcK, eK2, hL]; exact hcapn
  have hcKm : cK ≤ 9223372036854775807 := by rw [hcK, eK2]; unfold maxLen at hcapm; omega
  obtain ⟨j32, hj32⟩ : ∃ x, x = 32 * j := ⟨_, rfl⟩
  obtain ⟨j64, hj64⟩ : ∃ x, x = j32 + 32 := ⟨_, rfl⟩
  have HB0 : Hid (BIn w (some ⟨gk, j32, none⟩) (Dk.blk d.kept j)) := Lib.hid (fun _ => ⟨gk, j32, rfl, (hKb gk (by rw [hgk]; simp [blkOf])).2.1, fun k hk => by
    have hk32 : k < 32 := by rw [Dk.blk_len h.ok.kept hj] at hk; exact hk
    have := h.kept.cells (g := gk) (by rw [hbK]; rfl) (j32 + k) (B ((Dk.blk d.kept j)[k])) (by
      unfold bcs
      rw [List.getElem?_map]
      have e := Dk.blk_get d.kept j k
      rw [if_pos hk32, List.getElem?_eq_getElem hk] at e
      rw [show j32 + k = 32 * j + k by omega, ← e]
      rfl)
    rw [Addr.add_mid, Nat.zero_add] at this
    exact this⟩)
  have HR := Lib.hid h
  have HM := Lib.hid hm
  have m1 : (32 : Int) * (j : Int) = (j32 : Int) := by omega
  have m2 : (j32 : Int) + 32 = (j64 : Int) := by omega
  have m3 : IntKind.i64.wrap (j32 : Int) = (j32 : Int) := IntWalk.i64_in _ (by omega)
  have m4 : IntKind.i64.wrap (j64 : Int) = (j64 : Int) := IntWalk.i64_in _ (by omega)
  have m5 : (0 : Int) ≤ (j32 : Int) := by omega
  have m6 : (j32 : Int) ≤ (j64 : Int) := by omega
  have m7 : (j64 : Int) ≤ (cK : Int) := by omega
  have m8 : ¬ cK = j32 := by omega
  have m9 : j64 - j32 = 32 := by omega
  have hj0 : ¬ (j : Int) < 0 := by omega
  have hjNI : ¬ (N : Int) ≤ (j : Int) := by omega
  clear hN hL hm hLn eK1 eKn eK2 hcapn hcapm hKs hKb hgk hbK hcK hj32 hj64 h _ht hcKL
  go_enter Tryd.func63, Tryd.ntmps63
  go_wp2_with (refine HLN.mono ?_; rintro e w' ⟨rfl, rfl⟩)
  clear HLN
  go_loop [5, 6] (fun ov iv => ∃ (k : Nat) (A : Option Addr) (c : Nat), k ≤ m ∧ iv = .int .i64 k ∧ ov = .slice A 32 c ∧ BIn w A (Dk.seen j (Dk.blk d.kept j) (d.st.take k))) (fun _ iv => m - (intOf iv).toNat)
  case atStart => exact ⟨0, some ⟨gk, j32, none⟩, cK - j32, Nat.zero_le _, rfl, rfl, HB0.out⟩
  case round =>
    obtain ⟨k, A, c, hk, rfl, rfl, hbin⟩ := hrel
    have hk0 : (0 : Int) ≤ (k : Int) := by omega
    by_cases hlt : k < m
    · have hkl : k < d.st.length := by have := HM.out; omega
      obtain ⟨g, hg, hgl, hrange⟩ := range_r HR.out hkl
      have hgs : k < b.gs.length := by rw [HR.out.gl]; exact hkl
      have hgb := HR.out.gb k hkl
      have HSN : Hid (Dk.seen j (Dk.blk d.kept j) (d.st.take (k + 1)) = if d.st[k].1 = j then d.st[k].2 else Dk.seen j (Dk.blk d.kept j) (d.st.take k)) := Lib.hid (by rw [List.take_succ_eq_append_getElem hkl, Dk.seen_snoc])
      obtain ⟨gb, hgbe⟩ : ∃ gb, gb = b.gs[k]'hgs := ⟨_, rfl⟩
      rw [← hgbe] at hrange hgb
      obtain ⟨⟨at0, y⟩, hs⟩ : ∃ s, s = d.st[k] := ⟨_, rfl⟩
      rw [← hs] at hrange HSN hgb
      dsimp only at hrange HSN hgb
      have q0 := hrange 0 (.int .i64 (at0 : Int)) rfl
      have q1 := hrange 1 (.slice (some ⟨gb, 0, none⟩) 32 32) rfl
      rw [Nat.add_zero] at q0
      have HGB := Lib.hid hgb
      have HBIN := Lib.hid hbin
      rw [hg] at p1
      have hkI : (k : Int) < (m : Int) := by omega
      clear hs hkl hgb hgbe hg hrange hbin hgs
      by_cases he : at0 = j
      · rw [if_pos he] at HSN
        have he1 : ((at0 : Int) == (j : Int)) = true := by simp; omega
        have HEE := Lib.hid he
        clear he
        go_wp2_with fail
        go_round
        case rel => exact ⟨k + 1, some ⟨gb, 0, none⟩, 32, by omega, by go_num, rfl, by rw [HSN.out]; exact cB_in HGB.out⟩
        case measure => simp [intOf]; omega
      · rw [if_neg he] at HSN
        have he1 : ((at0 : Int) == (j : Int)) = false := by simp; omega
        have he3 : ¬ (at0 : Int) = (j : Int) := by omega
        clear he
        go_wp2_with fail
        go_round
        case rel => exact ⟨k + 1, A, c, by omega, by go_num, rfl, by rw [HSN.out]; exact HBIN.out⟩
        case measure => simp [intOf]; omega
    · have hkI : ¬ (k : Int) < (m : Int) := by omega
      have HE : Hid (BIn w A (Dk.seen j (Dk.blk d.kept j) d.st)) := Lib.hid (by
        have := HM.out
        rw [List.take_of_length_le (by omega)] at hbin
        exact hbin)
      clear hbin
      go_wp2_with fail
      go_ret
      first | exact ⟨⟨A, c, rfl, HE.out⟩, rfl⟩ | exact ⟨⟨A, ⟨c, rfl⟩, HE.out⟩, rfl⟩

theorem ref_read_none (w : World) (b : Rm) (d : Dk.D) (i : Int) (h : RAt w b d) (hi : i < 0 ∨ (d.n : Int) ≤ i) :
    Calls Tryd.prog 63 #[.pointer (some ⟨b.P, 0, none⟩), .int .i64 i] w fun e w' => e = .returned (.slice none 0 0) ∧ w = w' := by
  have HLN := ref_len_any w b d h
  by_cases h0 : i < 0
  · clear HLN
    go_enter Tryd.func63, Tryd.ntmps63
    go_wp2_with fail
    go_ret
    exact ⟨rfl, rfl⟩
  · have h1 : (d.n : Int) ≤ i := by omega
    clear hi
    go_enter Tryd.func63, Tryd.ntmps63
    go_wp2_with (refine HLN.mono ?_; rintro e w' ⟨rfl, rfl⟩)
    go_ret
    exact ⟨rfl, rfl⟩
end Go.Proofs.YtkmljbbnpjlehaaDoor
namespace Go.Proofs.YtkmljbbnpjlehaaDoor
set_option maxRecDepth 8000
namespace Wl

abbrev Bytes := List UInt8
def areaBlocks (n : Nat) : Nat := (n - 2) / 2
def areaBytes (n : Nat) : Nat := areaBlocks n * 32
def start (n a : Nat) : Nat := 2 + a * areaBlocks n
def word (g a u : Nat) : Nat := g * 16384 + a * 8192 + u
def head (g a u : Nat) : Bytes := Fr.be4 (Cr.sum (Fr.be4 (word g a u))) ++ Fr.be4 (word g a u)
/-- What the first four bytes tell. -/
def num (b : Bytes) : Nat := match b with
  | p :: q :: r :: s :: _ => p.toNat * 16777216 + q.toNat * 65536 + r.toNat * 256 + s.toNat
  | _ => 0
structure Hd where
  gen : Nat
  area : Nat
  used : Nat
def right (b : Bytes) : Prop := num b = Cr.sum ((b.drop 4).take 4)
instance (b : Bytes) : Decidable (right b) := by unfold right; exact inferInstance
def hdOf (b : Bytes) : Hd := ⟨num (b.drop 4) / 16384, num (b.drop 4) / 8192 % 2, num (b.drop 4) % 8192⟩
def readH (n i : Nat) (b : Bytes) : Option Hd :=
  if right b ∧ (hdOf b).gen % 2 = i ∧ (hdOf b).used ≤ areaBytes n then some (hdOf b) else none
def newest (n : Nat) (kept : Bytes) : Hd :=
  match readH n 0 (Dk.blk kept 0), readH n 1 (Dk.blk kept 1) with
  | some h, some g => if h.gen ≤ g.gen then g else h
  | some h, none => h
  | none, some g => g
  | none, none => ⟨0, 0, 0⟩
structure L where
  gen : Nat
  area : Nat
  fr : Bytes
def bytesAt (n : Nat) (kept : Bytes) (a u : Nat) : Bytes := (kept.drop (32 * start n a)).take u
/-- The log that lies on a disk on which nothing is staged. -/
def openK (n : Nat) (kept : Bytes) : Except Nat L :=
  if n < 4 then .error 1 else
  let h := newest n kept
  let f := bytesAt n kept h.area h.used
  if (Fr.scan f).2 = h.used then .ok ⟨h.gen, h.area, f⟩ else .error 20
inductive C where
  | wr (i : Nat) (b : Bytes)
  | sync
def callE (d : Dk.D) : C → Int
  | .wr i b => d.writeE i b
  | .sync => d.syncE
def call (d : Dk.D) : C → Dk.D
  | .wr i b => d.write i b
  | .sync => d.sync
/-- Calls, one behind the other, up to the first one that fails. -/
def runC : Dk.D → List C → Dk.D × Bool
  | d, [] => (d, true)
  | d, c :: r => if callE d c = 0 then runC (call d c) r else (call d c, false)
def chunk (b : Bytes) (k : Nat) : Bytes := (b.drop (32 * k)).take 32
def count (b : Bytes) : Nat := (b.length + 31) / 32
def writesC (at0 : Nat) (b : Bytes) : List C := (List.range (count b)).map fun k => .wr (at0 + k) (chunk b k)
def keepC (n area frm : Nat) (fr : Bytes) (g : Nat) : List C :=
  writesC (start n area + frm) (fr.drop (32 * frm)) ++ [.sync, .wr (g % 2) (head g area fr.length), .sync]
def keep (d : Dk.D) (l : L) (area frm : Nat) (fr : Bytes) : Int × Dk.D × L :=
  if areaBytes d.n < fr.length ∨ l.gen = 262143 then (5, d, l) else
  let r := runC d (keepC d.n area frm fr (l.gen + 1))
  if r.2 then (0, r.1, ⟨l.gen + 1, area, fr⟩) else (21, r.1.drop, l)
def append (d : Dk.D) (l : L) (b : Bytes) : Int × Dk.D × L :=
  match Fr.put b with
  | .error e => ((e : Int), d, l)
  | .ok f => keep d l l.area (l.fr.length / 32) (l.fr ++ f)
def replace (d : Dk.D) (l : L) (all : List Bytes) : Int × Dk.D × L :=
  match Fr.all all with
  | .error e => ((e : Int), d, l)
  | .ok f => keep d l (1 - l.area) 0 f

/-! Heads. -/
theorem num_be4 {s : Nat} (h : s < 4294967296) (r : Bytes) : num (Fr.be4 s ++ r) = s := by
  unfold Fr.be4 num
  simp only [List.cons_append, List.nil_append, UInt8.toNat_ofNat']
  omega
theorem num_lt (b : Bytes) : num b < 4294967296 := by
  unfold num
  split
  · rename_i p q r s _
    have := UInt8.toNat_lt p
    have := UInt8.toNat_lt q
    have := UInt8.toNat_lt r
    have := UInt8.toNat_lt s
    omega
  · omega
theorem be4_len (s : Nat) : (Fr.be4 s).length = 4 := rfl
theorem head_len (g a u : Nat) : (head g a u).length = 8 := rfl
theorem word_lt {g a u : Nat} (hg : g ≤ 262143) (ha : a ≤ 1) (hu : u < 8192) : word g a u < 4294967296 := by unfold word; omega
theorem head_drop (g a u : Nat) : (head g a u).drop 4 = Fr.be4 (word g a u) := rfl
theorem head_right (g a u : Nat) : right (head g a u) := by
  unfold right
  rw [head_drop, List.take_of_length_le (by rw [be4_len]; omega)]
  exact num_be4 (Cr.sum_lt _) _
theorem hdOf_head {g a u : Nat} (hg : g ≤ 262143) (ha : a ≤ 1) (hu : u < 8192) : hdOf (head g a u) = ⟨g, a, u⟩ := by
  have h : num ((head g a u).drop 4) = word g a u := by
    rw [head_drop, ← List.append_nil (Fr.be4 _)]
    exact num_be4 (word_lt hg ha hu) []
  unfold hdOf
  rw [h]
  unfold word
  congr 1 <;> omega
theorem num_inj : ∀ {a b : Bytes}, a.length = 4 → b.length = 4 → num a = num b → a = b
  | [a1, a2, a3, a4], [b1, b2, b3, b4], _, _, h => by
    simp only [num] at h
    have h1 := UInt8.toNat_lt a1
    have h2 := UInt8.toNat_lt a2
    have h3 := UInt8.toNat_lt a3
    have h4 := UInt8.toNat_lt a4
    have g1 := UInt8.toNat_lt b1
    have g2 := UInt8.toNat_lt b2
    have g3 := UInt8.toNat_lt b3
    have g4 := UInt8.toNat_lt b4
    rw [UInt8.toNat_inj.1 (show a1.toNat = b1.toNat by omega), UInt8.toNat_inj.1 (show a2.toNat = b2.toNat by omega), UInt8.toNat_inj.1 (show a3.toNat = b3.toNat by omega), UInt8.toNat_inj.1 (show a4.toNat = b4.toNat by omega)]
theorem num_take (b : Bytes) (h : 4 ≤ b.length) : num b = num (b.take 4) := by
  match b, h with
  | p :: q :: r :: s :: t, _ => rfl
/-- Of four bytes the sum tells which. -/
theorem sum_inj {a b : Bytes} (ha : a.length = 4) (hb : b.length = 4) (h : Cr.sum a = Cr.sum b) : a = b := by
  have hw : ∀ x : Bytes, x.length = 4 → Cr.wd x < 4294967296 := by
    intro x hx
    match x, hx with
    | [x1, x2, x3, x4], _ =>
      have h1 := UInt8.toNat_lt x1
      have h2 := UInt8.toNat_lt x2
      have h3 := UInt8.toNat_lt x3
      have h4 := UInt8.toNat_lt x4
      have : Cr.wd [x1, x2, x3, x4] = Cr.wd (Cr.four (x1.toNat + 256 * x2.toNat + 65536 * x3.toNat + 16777216 * x4.toNat)) := by
        unfold Cr.four
        have e1 : UInt8.ofNat (x1.toNat + 256 * x2.toNat + 65536 * x3.toNat + 16777216 * x4.toNat) = x1 := by apply UInt8.toNat_inj.1; rw [UInt8.toNat_ofNat']; omega
        have e2 : UInt8.ofNat ((x1.toNat + 256 * x2.toNat + 65536 * x3.toNat + 16777216 * x4.toNat) / 256) = x2 := by apply UInt8.toNat_inj.1; rw [UInt8.toNat_ofNat']; omega
        have e3 : UInt8.ofNat ((x1.toNat + 256 * x2.toNat + 65536 * x3.toNat + 16777216 * x4.toNat) / 65536) = x3 := by apply UInt8.toNat_inj.1; rw [UInt8.toNat_ofNat']; omega
        have e4 : UInt8.ofNat ((x1.toNat + 256 * x2.toNat + 65536 * x3.toNat + 16777216 * x4.toNat) / 16777216) = x4 := by apply UInt8.toNat_inj.1; rw [UInt8.toNat_ofNat']; omega
        rw [e1, e2, e3, e4]
      rw [this, Cr.wd_four (by omega)]
      omega
  have hwi : Cr.wd a = Cr.wd b → a = b := by
    intro e
    match a, b, ha, hb with
    | [a1, a2, a3, a4], [b1, b2, b3, b4], _, _ =>
      have h1 := UInt8.toNat_lt a1
      have h2 := UInt8.toNat_lt a2
      have h3 := UInt8.toNat_lt a3
      have h4 := UInt8.toNat_lt a4
      have g1 := UInt8.toNat_lt b1
      have g2 := UInt8.toNat_lt b2
      have g3 := UInt8.toNat_lt b3
      have g4 := UInt8.toNat_lt b4
      have e5 : ∀ x1 x2 x3 x4 : UInt8, Cr.wd [x1, x2, x3, x4] = x1.toNat + 256 * x2.toNat + 65536 * x3.toNat + 16777216 * x4.toNat := by
        intro x1 x2 x3 x4
        have h1 := UInt8.toNat_lt x1
        have h2 := UInt8.toNat_lt x2
        have h3 := UInt8.toNat_lt x3
        have h4 := UInt8.toNat_lt x4
        have : [x1, x2, x3, x4] = Cr.four (x1.toNat + 256 * x2.toNat + 65536 * x3.toNat + 16777216 * x4.toNat) := by
          unfold Cr.four
          have e1 : UInt8.ofNat (x1.toNat + 256 * x2.toNat + 65536 * x3.toNat + 16777216 * x4.toNat) = x1 := by apply UInt8.toNat_inj.1; rw [UInt8.toNat_ofNat']; omega
          have e2 : UInt8.ofNat ((x1.toNat + 256 * x2.toNat + 65536 * x3.toNat + 16777216 * x4.toNat) / 256) = x2 := by apply UInt8.toNat_inj.1; rw [UInt8.toNat_ofNat']; omega
          have e3 : UInt8.ofNat ((x1.toNat + 256 * x2.toNat + 65536 * x3.toNat + 16777216 * x4.toNat) / 65536) = x3 := by apply UInt8.toNat_inj.1; rw [UInt8.toNat_ofNat']; omega
          have e4 : UInt8.ofNat ((x1.toNat + 256 * x2.toNat + 65536 * x3.toNat + 16777216 * x4.toNat) / 16777216) = x4 := by apply UInt8.toNat_inj.1; rw [UInt8.toNat_ofNat']; omega
          rw [e1, e2, e3, e4]
        rw [this, Cr.wd_four (by omega)]
      rw [e5, e5] at e
      rw [UInt8.toNat_inj.1 (show a1.toNat = b1.toNat by omega), UInt8.toNat_inj.1 (show a2.toNat = b2.toNat by omega), UInt8.toNat_inj.1 (show a3.toNat = b3.toNat by omega), UInt8.toNat_inj.1 (show a4.toNat = b4.toNat by omega)]
  apply hwi
  have h1 : Cr.go (Cr.mx ^^^ 0) a = Cr.go (Cr.mx ^^^ 0) b := by
    have : Cr.mx ^^^ Cr.sum a = Cr.mx ^^^ Cr.sum b := by rw [h]
    unfold Cr.sum Cr.more at this
    rwa [Cr.mx_mx, Cr.mx_mx] at this
  rw [Cr.go_wd, Cr.go_wd, ha, hb] at h1
  have h2 : Cr.sts 32 (Cr.wd a ^^^ Cr.wd b) = 0 := by
    have h3 := Cr.sts_xor 32 (Cr.mx ^^^ 0 ^^^ Cr.wd a) (Cr.mx ^^^ 0 ^^^ Cr.wd b)
    rw [h1, Nat.xor_self] at h3
    rw [← h3]
    congr 1
    rw [Nat.xor_comm (Cr.mx ^^^ 0) (Cr.wd a), Nat.xor_assoc, ← Nat.xor_assoc (Cr.mx ^^^ 0), Nat.xor_self, Nat.zero_xor]
  have h3 := Cr.sts_eq_zero 32 _ (Nat.xor_lt_two_pow (n := 32) (hw a ha) (hw b hb)) h2
  have h4 : Cr.wd a ^^^ Cr.wd b ^^^ Cr.wd b = Cr.wd b := by rw [h3, Nat.zero_xor]
  rwa [Nat.xor_assoc, Nat.xor_self, Nat.xor_zero] at h4

def zero8 : Bytes := List.replicate 8 0
/-- What a torn head's rest may be of: nothing, or a right head. -/
def Old (O : Bytes) : Prop := O.length = 8 ∧ (O = zero8 ∨ right O)
theorem zero_not : ¬ right zero8 := by decide +kernel
theorem zeros_last {k : Nat} (hk : k < 4) {N : Bytes} (hN : N.length = 8) : num ((N.take k ++ zero8.drop k).take 4) % 256 = 0 := by
  match N, hN with
  | [a, b, c, d, e, f, g, i], _ =>
    have z : (0 : UInt8).toNat = 0 := rfl
    rcases k with _ | _ | _ | _ | k
    · show ((0 : UInt8).toNat * 16777216 + (0 : UInt8).toNat * 65536 + (0 : UInt8).toNat * 256 + (0 : UInt8).toNat) % 256 = 0
      rw [z]
    · show (a.toNat * 16777216 + (0 : UInt8).toNat * 65536 + (0 : UInt8).toNat * 256 + (0 : UInt8).toNat) % 256 = 0
      rw [z]
      omega
    · show (a.toNat * 16777216 + b.toNat * 65536 + (0 : UInt8).toNat * 256 + (0 : UInt8).toNat) % 256 = 0
      rw [z]
      omega
    · show (a.toNat * 16777216 + b.toNat * 65536 + c.toNat * 256 + (0 : UInt8).toNat) % 256 = 0
      rw [z]
      omega
    · omega
theorem torn {N O : Bytes} (k : Nat) (hN : N.length = 8) (hn : right N) (hO : Old O) (h : right (N.take k ++ O.drop k)) : N.take k ++ O.drop k = N ∨ N.take k ++ O.drop k = O := by
  obtain ⟨hl, ho⟩ := hO
  by_cases hk8 : 8 ≤ k
  · left
    rw [List.take_of_length_le (by omega), List.drop_eq_nil_of_le (by omega), List.append_nil]
  have hlen : (N.take k ++ O.drop k).length = 8 := by simp; omega
  by_cases hk : 4 ≤ k
  · left
    obtain ⟨X, hX⟩ : ∃ X, X = N.take k ++ O.drop k := ⟨_, rfl⟩
    rw [← hX] at h hlen ⊢
    have h4 : X.take 4 = N.take 4 := by
      rw [hX, List.take_append_of_le_length (by simp; omega), List.take_take, Nat.min_eq_left hk]
    have hnum : num X = num N := by rw [num_take X (by omega), num_take N (by omega), h4]
    unfold right at h hn
    rw [hnum, hn] at h
    have h5 := sum_inj (by simp; omega) (by simp; omega) h
    rw [List.take_of_length_le (by simp; omega), List.take_of_length_le (by simp; omega)] at h5
    rw [← List.take_append_drop 4 X, ← List.take_append_drop 4 N, h4, h5]
  · have h4 : (N.take k ++ O.drop k).drop 4 = O.drop 4 := by
      rw [List.drop_append, List.drop_drop, List.drop_eq_nil_of_le (by simp; omega), List.nil_append]
      congr 1
      simp
      omega
    rcases ho with rfl | ho
    · exfalso
      unfold right at h
      rw [h4] at h
      have h3 : num (N.take k ++ zero8.drop k) % 256 = 0 := by
        rw [num_take _ (by rw [hlen]; omega)]
        exact zeros_last (by omega) hN
      have h5 : Cr.sum ((zero8.drop 4).take 4) % 256 ≠ 0 := by decide +kernel
      exact h5 ((congrArg (· % 256) h.symm).trans h3)
    · right
      obtain ⟨X, hX⟩ : ∃ X, X = N.take k ++ O.drop k := ⟨_, rfl⟩
      rw [← hX] at h hlen h4 ⊢
      unfold right at h ho
      rw [h4, ← ho, num_take X (by omega), num_take O (by omega)] at h
      have h5 := num_inj (by simp; omega) (by simp; omega) h
      rw [← List.take_append_drop 4 X, ← List.take_append_drop 4 O, h4, h5]
end Wl
end Go.Proofs.YtkmljbbnpjlehaaDoor
