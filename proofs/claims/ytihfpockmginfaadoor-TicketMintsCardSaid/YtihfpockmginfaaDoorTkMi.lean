/- The call TicketMints answers true, for any draws, kinds and answers. -/
import Derived.Test.YtihfpockmginfaaDoorTkMd
namespace Go.Proofs.YtihfpockmginfaaDoor
set_option maxRecDepth 8000
open Go.RowKit

theorem KB.trans {w w' w'' : World} {P : Nat} (h : KB w w' P) (k : KB w' w'' P) : KB w w'' P :=
  ⟨k.os.trans h.os, k.tape.trans h.tape, k.output.trans h.output, Nat.le_trans h.size k.size, fun i hi hne => (k.block i (Nat.lt_of_lt_of_le hi h.size) hne).trans (h.block i hi hne)⟩
set_option maxHeartbeats 6400000 in
theorem ticketMints_any (A0 A1 A2 A3 : Option Addr) (c0 c1 c2 c3 : Nat) (D M : List Nat) (ks : List Int) (tk : List Bool) (w : World) (hE : EnvT w)
    (h0 : UC w w.heap.size A0 D) (n0 : A0 = none → D.length = 0 ∧ c0 = 0) (k0 : ∀ z ∈ D, z < 18446744073709551616) (h1 : UC w w.heap.size A1 M) (n1 : A1 = none → M.length = 0 ∧ c1 = 0) (k1 : ∀ z ∈ M, z < 18446744073709551616)
    (h2 : IC .i64 w w.heap.size A2 ks) (h3 : LCells w w.heap.size A3 tk) :
    Calls Tryd.prog 7 #[.slice A0 D.length c0, .slice A1 M.length c1, .slice A2 ks.length c2, .slice A3 tk.length c3] w (AwakePost w) := by
  have hA := awake_any w hE
  by_cases hok : D.length ≤ 20 ∧ M.length ≤ 10 ∧ ks.length ≤ 40
  · obtain ⟨q1, q2, q3⟩ := hok
    have e1 : decide ((20 : Int) < (D.length : Int)) = false := by simp; omega
    have e2 : decide ((10 : Int) < (M.length : Int)) = false := by simp; omega
    have e3 : decide ((40 : Int) < (ks.length : Int)) = false := by simp; omega
    go_enter Tryd.func7, Tryd.ntmps7
    go_upto_region 4 with (go_at_call 8; refine hA.mono ?_; rintro e w1 ⟨rfl, hz⟩)
    rename World => w1
    clear hA
    have hU0 : Hid (∀ o, UC (w1.alloc o) (w1.alloc o).heap.size A0 D) := Lib.hid fun o => h0.at_ (hz.alloc hz.size o)
    have hz0 := hz.alloc hz.size (.cells #[] 22)
    have HZ := Lib.hid hz
    clear hz
    go_upto_region 5 with (at_builtin; refine wpList_append_opt rfl _ _ rfl w1.heap.size (.slice (some ⟨w1.heap.size, 0, none⟩) 0 0) [] rfl (World.ownsRow_made w1 #[] 0 (Nat.le_refl _) (Nat.zero_le _) rfl) A0 c0 D rfl (hU0.out _) n0 (by simp; omega) (by simp) (fun h => by cases h) ?_; intro v2 w2 hown2 hgrow2 hnil2; rw [List.nil_append] at hown2; obtain ⟨G0, cG, rfl, g1, g2, g3, g4, g5, g6⟩ := own_cells hown2 hnil2)
    have hb2 : Below w.heap.size w w2 := hz0.grown hgrow2 (by have := HZ.out.size; simp; omega) (by intro k hk; simp [Value.ownBlock] at hk; have := HZ.out.size; omega)
    have hNew := new_any G0 cG D w2 (by omega) g2 g5
    have hg6 : Hid (∀ j, j < D.length → ∃ x, w2.cell? ⟨G0, j, none⟩ = some (.int .u64 x) ∧ w2.frozen? ⟨G0, j, none⟩ = false) := Lib.hid fun j hj => ⟨_, g5 j hj, (g6 j (by omega)).2⟩
    have HGW : Hid (w.heap.size ≤ G0) := Lib.hid (Nat.le_trans HZ.out.size g1)
    clear hgrow2 hown2 hnil2 hz0 hU0 g3 g4 g5 g6 g1
    go_upto_region 8 with (go_at_call 19; refine hNew.mono ?_; rintro e w3 ⟨P, rfl, hM3, hP3, hb3⟩)
    have hb3' := hb2.trans (hb3.mono hb2.size)
    have hPw : w.heap.size ≤ P := Nat.le_trans hb2.size hM3.lo
    have hcl3 : Hid (∀ j, j < D.length → ∃ x, w3.cell? ⟨G0, j, none⟩ = some (.int .u64 x) ∧ w3.frozen? ⟨G0, j, none⟩ = false) := Lib.hid fun j hj => by
      obtain ⟨x, h, h'⟩ := hg6.out j hj
      have e := hb3.block G0 g2
      exact ⟨x, by rw [World.cell?_of_block (a := ⟨G0, j, none⟩) e]; exact h, by rw [World.frozen?_of_block (a := ⟨G0, j, none⟩) e]; exact h'⟩
    clear hNew
    go_upto_region 9 with fail
    go_loopw [12] (fun vi wr => ∃ i : Nat, vi = .int .i64 i ∧ i ≤ D.length ∧ KB w3 wr G0 ∧ MS wr w2.heap.size w3.heap.size P D ∧ Hid (∀ j, j < D.length → ∃ x, wr.cell? ⟨G0, j, none⟩ = some (.int .u64 x) ∧ wr.frozen? ⟨G0, j, none⟩ = false)) (fun vi _ => D.length - (intOf vi).toNat)
    case atStart => exact ⟨0, rfl, by omega, ⟨rfl, rfl, rfl, Nat.le_refl _, fun _ _ _ => rfl⟩, hM3, hcl3⟩
    case round =>
      obtain ⟨i, rfl, hi, hK, hM, hcl⟩ := hrel
      by_cases hlt : i < D.length
      · obtain ⟨x, hx, hfx⟩ := hcl.out i hlt
        have hset : ∀ y : Int, KB w3 (wr.setCell ⟨G0, i, none⟩ (.int .u64 y)) G0 ∧ MS (wr.setCell ⟨G0, i, none⟩ (.int .u64 y)) w2.heap.size w3.heap.size P D ∧ Hid (∀ j, j < D.length → ∃ x, (wr.setCell ⟨G0, i, none⟩ (.int .u64 y)).cell? ⟨G0, j, none⟩ = some (.int .u64 x) ∧ (wr.setCell ⟨G0, i, none⟩ (.int .u64 y)).frozen? ⟨G0, j, none⟩ = false) := fun y => by
          have ho : ∀ q, q ≠ G0 → (wr.setCell ⟨G0, i, none⟩ (.int .u64 y)).heap[q]? = wr.heap[q]? := fun q hq => heap_setCell_other wr ⟨G0, i, none⟩ q _ hq
          refine ⟨⟨hK.os, hK.tape, hK.output, by rw [World.size_setCell]; exact hK.size, fun q hq hne => (ho q hne).trans (hK.block q hq hne)⟩, hM.other (by rw [World.size_setCell]; exact Nat.le_refl _) (fun q _ hq => ho q (by omega)), Lib.hid fun j hj => ?_⟩
          obtain ⟨z, hz1, hz2⟩ := hcl.out j hj
          refine ⟨if j = i then y else z, ?_, by rw [World.frozen?_setCell]; exact hz2⟩
          by_cases e : j = i
          · subst e
            rw [if_pos rfl]
            exact World.cell?_setCell_same _ _ _ hx
          · rw [if_neg e, World.cell?_setCell_other _ _ _ _ (by simp only [ne_eq, Addr.mk.injEq]; omega)]
            exact hz1
        have HS := Lib.hid hset
        clear hset hM hK
        go_wp2
        go_roundw
        case rel => exact ⟨i + 1, by go_num, by omega, HS.out _⟩
        case measure => simp [intOf]; omega
      · have hb4 : Below w.heap.size w wr := hK.below hb3' HGW.out hb3'.size
        have hM4 : MS wr w.heap.size wr.heap.size P D := hM.weaken hb2.size (Nat.le_refl _)
        have hP4 : P < wr.heap.size := Nat.lt_of_lt_of_le hP3 hK.size
        clear hcl hM hK
        have hU0 : Hid (∀ o, UC (wr.alloc o) (wr.alloc o).heap.size A0 D) := Lib.hid fun o => h0.at_ (hb4.alloc hb4.size o)
        have hU1 : Hid (∀ w', Below w.heap.size w w' → UC w' w'.heap.size A1 M) := Lib.hid fun w' h => h1.at_ h
        have hbo : Below wr.heap.size wr (wr.alloc (.cells #[] 22)) := (Below.refl _ _).alloc (Nat.le_refl _) _
        have HB4 := Lib.hid hb4
        clear hb4
        go_upto_region 13 with (first
          | (at_builtin; refine wpList_append_opt rfl (.tmp 58) (.tmp 59) rfl wr.heap.size (.slice (some ⟨wr.heap.size, 0, none⟩) 0 0) [] rfl (World.ownsRow_made wr #[] 0 (Nat.le_refl _) (Nat.zero_le _) rfl) A0 c0 D rfl (hU0.out _) n0 (by simp; omega) (by simp) (fun h => by cases h) ?_; intro v5 w5 hown5 hgrow5 hnil5; rw [List.nil_append] at hown5; have hb5 : Below wr.heap.size wr w5 := hbo.grown hgrow5 (by simp) (by intro k hk; simp [Value.ownBlock] at hk; omega); have hb5' := HB4.out.trans (hb5.mono HB4.out.size); have hs5 := hb5.size)
          | (at_builtin; refine wpList_append_opt rfl (.tmp 60) (.tmp 61) rfl wr.heap.size v5 D rfl hown5 A1 c1 M rfl (hU1.out _ hb5') n1 (by omega) hs5 hnil5 ?_; intro v6 w6 hown6 hgrow6 hnil6; obtain ⟨H, cH, rfl, q4, q5, q6, q7, q8, _⟩ := own_cells hown6 hnil6))
        have hb6 : Below wr.heap.size wr w6 := hb5.grown hgrow6 hs5 (fun k hk => (hown5.lt k hk).1)
        have hb6' := HB4.out.trans (hb6.mono HB4.out.size)
        have hLS : LS w w6 wr.heap.size P H (D ++ M) := ⟨hb6', q4, q5, hP4, hPw, q8⟩
        have hM6 : MS w6 w.heap.size wr.heap.size P D := hM4.other hb6.size (fun i hi _ => hb6.block i hi)
        obtain ⟨N, hN⟩ : ∃ N, N = wr.heap.size := ⟨_, rfl⟩
        rw [← hN] at hLS hM6
        obtain ⟨hf, hhf⟩ : ∃ hf, hf = ks.length / 2 := ⟨_, rfl⟩
        have hSt : St w w6 N P (hf + 1) 0 D (D ++ M) 0 := .inl ⟨by omega, Nat.zero_le _, by rw [List.drop_zero]; exact hM6⟩
        have hdiv : (ks.length : Int) / 2 = (hf : Int) := by omega
        have hdiv' : (ks.length : Int).tdiv 2 = (hf : Int) := by rw [Int.tdiv_eq_ediv_of_nonneg (by omega)]; exact hdiv
        have HR : Hid (∀ (wx : World) (at_ i : Nat), St w wx N P hf at_ D (D ++ M) i → ∃ R, MR wx w.heap.size P R ∧ at_ + R.length = thereN hf i D (D ++ M) ∧ (∀ j (hj : j < R.length), (D ++ M)[at_ + j]? = some R[j]) ∧
            (∀ d R', R = d :: R' → ∀ w', MR w' w.heap.size P R' → (∀ N, MS wx w.heap.size N P (d :: R') → MS w' w.heap.size N P R') → St w w' N P hf (at_ + 1) D (D ++ M) i)) := Lib.hid fun wx at_ i h => h.read
        have HFd : Hid (∀ (wx : World) (at_ : Nat), LS w wx N P H (D ++ M) → at_ ≤ D.length → MS wx w.heap.size N P (D.drop at_) → Calls Tryd.prog 20 #[.pointer (some ⟨P, 0, none⟩), .slice A1 M.length c1] wx fun e w' => e = .returned (.tuple #[]) ∧ LS w w' N P H (D ++ M) ∧ ∀ i, hf ≤ i → St w w' N P hf at_ D (D ++ M) i) := Lib.hid fun wx at_ hL hat hM => by
          refine (feed_any wx w.heap.size N P (D.drop at_) hM hL.PN A1 c1 M (h1.at_ hL.below) n1 (by rw [List.length_drop]; omega)).mono fun e w' ⟨h, hR, hK⟩ => ⟨h, hL.kn hK, fun i hi => .inr ⟨hi, by rw [List.length_append]; omega, ?_⟩⟩
          rw [List.drop_append_of_le_length hat]
          exact hR
        have Hk : Hid (∀ z ∈ D ++ M, z < 18446744073709551616) := Lib.hid fun z hz => by
          rcases List.mem_append.1 hz with h | h
          · exact k0 z h
          · exact k1 z h
        have hthN : Hid (∀ i, (i < hf → thereN hf i D (D ++ M) = D.length) ∧ (hf ≤ i → thereN hf i D (D ++ M) = (D ++ M).length)) := Lib.hid fun i => ⟨fun h => by unfold thereN; rw [if_pos h], fun h => by unfold thereN; rw [if_neg (by omega)]⟩
        have hall50 : (D ++ M).length ≤ 30 := by rw [List.length_append]; omega
        have HHF := Lib.hid hhf
        obtain ⟨all, hall⟩ : ∃ all, all = D ++ M := ⟨_, rfl⟩
        rw [← hall] at hLS hSt HR HFd Hk hthN hall50
        try rw [← hall]
        clear hM4 hM6 hown5 hown6 hgrow5 hgrow6 hnil5 hnil6 hb5 hb5' hb6 hb6' hU0 hU1 hbo q4 q5 q6 q7 q8 hhf hN hM3 hcl3 hg6
        go_upto_region 15 with fail
        obtain ⟨la, hla⟩ : ∃ la, la = D.length + M.length := ⟨_, rfl⟩
        rw [← hla]
        have hal : all.length = la := by rw [hall, hla, List.length_append]
        have HAL := Lib.hid hal
        have hla30 : la ≤ 30 := by omega
        clear hall hla hal hall50 hPw hP4 hP3 hb3' hb3 hb2 g2 hlt hi
        go_loopw [14, 15] (fun va vi wr => ∃ (at_ i : Nat), va = .int .i64 at_ ∧ vi = .int .i64 i ∧ i ≤ ks.length ∧ LS w wr N P H all ∧ St w wr N P (hf + 1) at_ D all i ∧ at_ ≤ 100) (fun _ vi _ => ks.length - (intOf vi).toNat)
        case atStart => exact ⟨0, 0, rfl, rfl, by omega, hLS, hSt, by omega⟩
        case round =>
          clear hLS hSt
          obtain ⟨at_, i, rfl, rfl, hi, hLS, hSt, hat⟩ := hrel
          by_cases hlt : i < ks.length
          · go_upto_if 73 with fail
            go_cut [] (fun wx => LS w wx N P H all ∧ St w wx N P hf at_ D all i)
            case first =>
              rcases hSt with ⟨s1, s2, s3⟩ | ⟨s1, s2, s3⟩
              · by_cases he : i = hf
                · have hd1 : ((i : Int) == (hf : Int)) = true := by simp; omega
                  have hF := HFd.out wr at_ hLS s2 s3
                  have hhi : hf ≤ i := by omega
                  clear he s1 s2 s3 hLS
                  go_wp2_with (go_at_call 20; refine hF.mono ?_; rintro e w7 ⟨rfl, hL7, hS7⟩)
                  go_meet
                  exact ⟨hL7, hS7 i hhi⟩
                · have hd1 : ((i : Int) == (hf : Int)) = false := by simp; omega
                  have hS7 : St w wr N P hf at_ D all i := .inl ⟨by omega, s2, s3⟩
                  clear he s1 s2 s3
                  go_wp2
                  go_meet
                  exact ⟨hLS, hS7⟩
              · have hd1 : ((i : Int) == (hf : Int)) = false := by simp; omega
                have hS7 : St w wr N P hf at_ D all i := .inr ⟨by omega, s2, s3⟩
                clear s1 s2 s3
                go_wp2
                go_meet
                exact ⟨hLS, hS7⟩
            case rest =>
              clear hLS hSt
              obtain ⟨wx, rfl⟩ : ∃ q, q = wc := ⟨_, rfl⟩
              obtain ⟨hLS, hSt⟩ := hcut
              obtain ⟨th, hth⟩ : ∃ th, th = thereN hf i D all := ⟨_, rfl⟩
              obtain ⟨R, hMR, hlen, hget, hstep⟩ := HR.out wx at_ i hSt
              rw [← hth] at hlen
              have hth1 : i < hf → th = D.length := fun h => by rw [hth, (hthN.out i).1 h]
              have hth2 : hf ≤ i → th = la := fun h => by rw [hth, (hthN.out i).2 h, HAL.out]
              have hthl : th ≤ 100 := by
                rcases Nat.lt_or_ge i hf with h | h
                · rw [hth1 h]; omega
                · rw [hth2 h]; omega
              clear hth
              go_upto_if 83 with fail
              go_cut [16] (fun t wz => t = .int .i64 (th : Int) ∧ wx = wz)
              case first =>
                clear hlen hget hstep hMR
                rcases Nat.lt_or_ge i hf with h | h
                · have e := hth1 h
                  have hd1 : ¬ ((hf : Int) ≤ (i : Int)) := by omega
                  clear hth1 hth2
                  go_wp2
                  go_meet
                  exact ⟨by rw [e], rfl⟩
                · have e := hth2 h
                  have hd1 : (hf : Int) ≤ (i : Int) := by omega
                  clear hth1 hth2
                  go_wp2
                  go_meet
                  exact ⟨by rw [e], rfl⟩
              case rest =>
                obtain ⟨rfl, rfl⟩ := hcut
                obtain ⟨isb, hisb⟩ : ∃ isb, isb = tk.getD i false := ⟨_, rfl⟩
                clear hth1 hth2
                have HTH := Lib.hid hlen
                clear hlen
                go_upto_region 22 with fail
                go_cut [17] (fun t wz => t = .bool isb ∧ wx = wz)
                case first =>
                  rcases Nat.lt_or_ge i tk.length with h | h
                  · obtain ⟨b3, o3, hA3, _, hc3⟩ := h3.at_ hLS.below i h
                    subst hA3
                    have e : tk[i] = isb := by rw [hisb]; simp [List.getD, h]
                    rw [e] at hc3
                    have hi1 : (i : Int) < (tk.length : Int) := by omega
                    clear e hisb
                    go_wp2
                    all_goals
                      go_meet
                      first
                        | exact ⟨rfl, rfl⟩
                        | exact ⟨by simp_all, rfl⟩
                  · have e : isb = false := by rw [hisb]; simp [List.getD, h]
                    have hi1 : ¬ ((i : Int) < (tk.length : Int)) := by omega
                    clear hisb
                    go_wp2
                    go_meet
                    exact ⟨by rw [e], rfl⟩
                case rest =>
                  obtain ⟨rfl, rfl⟩ := hcut
                  clear hisb
                  obtain ⟨b2, o2, hA2, hlt2, hc2⟩ := h2.at_ hLS.below i hlt
                  subst hA2
                  generalize ks[i] = kind at hc2
                  have hbw := hLS.below.size
                  have hb2P : b2 ≠ P := by have := hLS.bP; omega
                  have HC : Hid (∀ w', KB wx w' P → w'.cell? ⟨b2, o2 + i, none⟩ = some (.int .i64 kind)) := Lib.hid fun w' h => (h.cell (by omega) hb2P).trans hc2
                  have hdr : Below wx.heap.size wx wx.drew := ⟨rfl, rfl, rfl, Nat.le_refl _, fun _ _ => rfl⟩
                  have hKd : KB wx wx.drew P := KB.of_below hdr
                  have hLSd := hLS.next hdr
                  have hEd := hE.next hLSd.below
                  have hStd : St w wx.drew N P hf at_ D all i := hSt.other hdr
                  have hMRd : MR wx.drew w.heap.size P R := hMR.other hdr.size (fun q hq _ => hdr.block q hq)
                  have hsub : (th : Int) - (at_ : Int) = (R.length : Int) := by have := HTH.out; omega
                  have hi0 : (0 : Int) ≤ (i : Int) := by omega
                  have hi1 : (i : Int) < (ks.length : Int) := by omega
                  have HLS := Lib.hid hLS
                  have HST := Lib.hid hStd
                  clear hLS hSt hStd hMR hdr
                  have hup : ∀ (wy : World) (a : Nat), St w wy N P hf a D all i → St w wy N P (hf + 1) a D all (i + 1) := fun wy a h => by
                    rcases h with ⟨s1, s2, s3⟩ | ⟨s1, s2, s3⟩
                    · exact .inl ⟨by omega, s2, s3⟩
                    · exact .inr ⟨by omega, s2, s3⟩
                  have HUP := Lib.hid hup
                  clear hup
                  rcases preI_cases kind with ⟨hk, _⟩ | ⟨k, rfl, kl, kh, _⟩
                  · have hN := next_kind kind hk P (fnV isb) wx.drew hEd
                    have hRp := fun w' => refPrefix_any kind w'
                    rw [hk] at hRp
                    have hS : (S []).toList.isEmpty = true := by rw [S_empty]; rfl
                    generalize S [] = X at hRp hS
                    have hLf := fun w' h => left_any P w.heap.size R w' h
                    go_upto_region 23 with fail
                    go_region_held3 (fun w' => w'.cell? ⟨b2, o2 + i, none⟩ = some (.int .i64 kind))
                      (exact HC.out _ hKd)
                      (first
                        | (go_at_call 22; refine (always_any isb _).mono ?_; rintro e w' ⟨rfl, rfl⟩)
                        | (go_at_call 21; refine hN.mono ?_; rintro e w' ⟨rfl, rfl⟩))
                    have hc2d := HC.out _ hKd
                    have hLfd := hLf _ hMRd
                    go_wp2_with (first
                      | (go_at_call 14; refine (hRp _).mono ?_; rintro e w' ⟨rfl, rfl⟩)
                      | (go_at_call 23; refine hLfd.mono ?_; rintro e w' ⟨rfl, rfl⟩))
                    go_roundw
                    case rel => exact ⟨at_, i + 1, rfl, by go_num, by omega, hLSd, HUP.out _ _ HST.out, hat⟩
                    case measure => simp [intOf]; omega
                  · have hRp := fun w' => (refPrefix_any (k : Int) w').mono fun _ _ h => And.intro h.1 h.2.symm
                    rw [preI_nat] at hRp
                    have hS := pre_nonempty kl kh
                    generalize S (Tk.pre k) = X at hRp hS
                    cases R with
                    | nil =>
                      have hN := next_none k kl kh P w.heap.size (fnV isb) wx.drew hEd hMRd
                      have hLfd := left_any P w.heap.size [] wx.drew hMRd
                      rw [List.length_nil] at hLfd hsub
                      have hge : (th : Int) ≤ (at_ : Int) := by omega
                      have hsub' : (th : Int) - (at_ : Int) = 0 := by omega
                      clear hsub
                      go_upto_region 23 with fail
                      go_region_held3 (fun w' => w'.cell? ⟨b2, o2 + i, none⟩ = some (.int .i64 (k : Int)))
                        (exact HC.out _ hKd)
                        (first
                          | (go_at_call 22; refine (always_any isb _).mono ?_; rintro e w' ⟨rfl, rfl⟩)
                          | (go_at_call 21; refine hN.mono ?_; rintro e w' ⟨rfl, rfl⟩))
                      have hc2d := HC.out _ hKd
                      go_wp2_with (first
                        | (go_at_call 14; refine (hRp _).mono ?_; rintro e w' ⟨rfl, rfl⟩)
                        | (go_at_call 23; refine hLfd.mono ?_; rintro e w' ⟨rfl, rfl⟩))
                      go_roundw
                      case rel => exact ⟨at_, i + 1, rfl, by go_num, by omega, hLSd, HUP.out _ _ HST.out, hat⟩
                      case measure => simp [intOf]; omega
                    | cons d R' =>
                      have hg0 := hget 0 (by simp)
                      rw [Nat.add_zero, List.getElem_cons_zero] at hg0
                      have hat2 : at_ < all.length := (List.getElem?_eq_some_iff.1 hg0).1
                      have hd := Hk.out d (List.mem_of_getElem? hg0)
                      have HD : Hid (all[at_] = d) := Lib.hid (by
                        have := (List.getElem?_eq_some_iff.1 hg0).2
                        exact this)
                      have hN := next_draw k kl kh P d R' hd isb w wx.drew hE hLSd.below hMRd
                      have hRn := fun w' => refName_any (k : Int) d hd w'
                      rw [nameV_good kl kh] at hRn
                      generalize Tk.name k d = nm at hN hRn
                      have HSTEP : Hid (∀ w', MR w' w.heap.size P R' → (∀ N, MS wx.drew w.heap.size N P (d :: R') → MS w' w.heap.size N P R') → St w w' N P hf (at_ + 1) D all i) := Lib.hid fun w' h h' => hstep d R' rfl w' h (fun N hm => h' N (hm.other (Nat.le_refl _) (fun _ _ _ => rfl)))
                      rw [List.length_cons] at hsub
                      have hlt2' : (at_ : Int) < (th : Int) := by omega
                      have hsub' : (th : Int) - ((at_ : Int) + 1) = (R'.length : Int) := by omega
                      have hal1 : (at_ : Int) < (la : Int) := by have := HAL.out; omega
                      have hal0 : (0 : Int) ≤ (at_ : Int) := by omega
                      clear hget hstep hg0 hsub hMRd hd
                      have hthl' : at_ < 100 := by omega
                      cases isb with
                      | true =>
                        rw [if_pos rfl] at hN
                        go_upto_region 23 with fail
                        go_region_held3 (fun w' => w'.cell? ⟨b2, o2 + i, none⟩ = some (.int .i64 (k : Int)))
                          (first
                            | exact HC.out _ hK7
                            | exact HC.out _ hKd)
                          (first
                            | (go_at_call 22; refine (always_any true _).mono ?_; rintro e w' ⟨rfl, rfl⟩)
                            | (go_at_call 21; refine hN.mono ?_; rintro e w7 ⟨rfl, hR7, hS7, hk7⟩; have hK7 := hKd.trans hk7))
                        have hL7 := hLSd.kb hk7
                        have hSt7 := HSTEP.out w7 hR7 hS7
                        have hc7 := HC.out _ hK7
                        have hq7 := hL7.cells at_ hat2
                        rw [HD.out] at hq7
                        have HL7 := Lib.hid hL7
                        have HS7 := Lib.hid hSt7
                        have HR7 := Lib.hid hR7
                        have HK7 := Lib.hid hK7
                        clear hL7 hSt7 hR7 hS7 hk7 hK7 hN hc2
                        go_upto_region 25 with (go_at_call 14; refine (hRp _).mono ?_; rintro e w' ⟨rfl, rfl⟩)
                        go_quiet ((go_at_call 10; exact Calls.quiet_of_same (hRn _)))
                        have hbq : Below w7.heap.size w7 (w7.drewN nq) := below_drewN (Below.refl _ _) nq
                        have hL8 := HL7.out.next hbq
                        have hS8 := HS7.out.other hbq
                        have hR8 := HR7.out.other hbq.size (fun q hq _ => hbq.block q hq)
                        have hL8f := left_any P w.heap.size R' _ hR8
                        have HL8 := Lib.hid hL8
                        have HS8 := Lib.hid hS8
                        clear hR8 hbq hL8 hS8 hc7 hq7
                        generalize w7.drewN nq = w8 at hL8f HL8 HS8 ⊢
                        go_wp2_with (go_at_call 23; refine hL8f.mono ?_; rintro e w' ⟨rfl, rfl⟩)
                        go_roundw
                        case rel => exact ⟨at_ + 1, i + 1, by go_num, by go_num, by omega, HL8.out, HUP.out _ _ HS8.out, by omega⟩
                        case measure => simp [intOf]; omega
                      | false =>
                        rw [if_neg (by decide)] at hN
                        go_upto_region 23 with fail
                        go_region_held3 (fun w' => w'.cell? ⟨b2, o2 + i, none⟩ = some (.int .i64 (k : Int)))
                          (first
                            | exact HC.out _ hK7
                            | exact HC.out _ hKd)
                          (first
                            | (go_at_call 22; refine (always_any false _).mono ?_; rintro e w' ⟨rfl, rfl⟩)
                            | (go_at_call 21; refine hN.mono ?_; rintro e w7 ⟨rfl, hR7, hS7, hk7⟩; have hK7 := hKd.trans hk7))
                        have hL7 := hLSd.kb hk7
                        have hSt7 := HSTEP.out w7 hR7 hS7
                        have hc7 := HC.out _ hK7
                        have hq7 := hL7.cells at_ hat2
                        rw [HD.out] at hq7
                        have HL7 := Lib.hid hL7
                        have HS7 := Lib.hid hSt7
                        have HR7 := Lib.hid hR7
                        have HK7 := Lib.hid hK7
                        clear hL7 hSt7 hR7 hS7 hk7 hK7 hN hc2
                        go_upto_region 25 with (go_at_call 14; refine (hRp _).mono ?_; rintro e w' ⟨rfl, rfl⟩)
                        go_quiet ((go_at_call 10; exact Calls.quiet_of_same (hRn _)))
                        have hbq : Below w7.heap.size w7 (w7.drewN nq) := below_drewN (Below.refl _ _) nq
                        have hL8 := HL7.out.next hbq
                        have hS8 := HS7.out.other hbq
                        have hR8 := HR7.out.other hbq.size (fun q hq _ => hbq.block q hq)
                        have hL8f := left_any P w.heap.size R' _ hR8
                        have HL8 := Lib.hid hL8
                        have HS8 := Lib.hid hS8
                        clear hR8 hbq hL8 hS8 hc7 hq7
                        generalize w7.drewN nq = w8 at hL8f HL8 HS8 ⊢
                        go_wp2_with (go_at_call 23; refine hL8f.mono ?_; rintro e w' ⟨rfl, rfl⟩)
                        go_roundw
                        case rel => exact ⟨at_ + 1, i + 1, by go_num, by go_num, by omega, HL8.out, HUP.out _ _ HS8.out, by omega⟩
                        case measure => simp [intOf]; omega
          · go_wp2
            go_ret
            exact ⟨rfl, hLS.below⟩
  · have hway : (20 < D.length) ∨ (D.length ≤ 20 ∧ 10 < M.length) ∨ (D.length ≤ 20 ∧ M.length ≤ 10 ∧ 40 < ks.length) := by omega
    clear hok
    rcases hway with q | ⟨q, q'⟩ | ⟨q, q', q''⟩
    all_goals
      go_enter Tryd.func7, Tryd.ntmps7
      go_wp2_with (go_at_call 8; refine hA.mono ?_; rintro e w1 ⟨rfl, hz⟩)
      go_ret
      exact ⟨rfl, hz⟩
end Go.Proofs.YtihfpockmginfaaDoor
