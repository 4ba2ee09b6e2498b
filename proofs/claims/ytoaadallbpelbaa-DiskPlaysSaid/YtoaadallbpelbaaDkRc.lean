/- What the calls Sync and Crash of the document's own disk do. Conditions: at most 1048576 blocks staged. -/
import Derived.Test.YtoaadallbpelbaaDkRb
namespace Go.Proofs.Ytoaadallbpelbaa
set_option maxRecDepth 8000
open Go.RowKit

theorem rcs_get : ∀ (l : List (Nat × List UInt8)) (gs : List Nat) (k : Nat) (hk : k < l.length) (hg : k < gs.length) (q : Nat) (v : Value), (rc1 l[k].1 gs[k])[q]? = some v → (rcs l gs)[k * 2 + q]? = some v
  | s :: l, g :: gs, 0, _, _, q, v, h => by
    have h' : (rc1 s.1 g)[q]? = some v := h
    unfold rcs
    rw [Nat.zero_mul, Nat.zero_add, List.getElem?_append_left (List.getElem?_eq_some_iff.1 h').1]
    exact h'
  | s :: l, g :: gs, k + 1, hk, hg, q, v, h => by
    have ih := rcs_get l gs k (by simpa using hk) (by simpa using hg) q v (by simpa using h)
    unfold rcs
    rw [List.getElem?_append_right (by unfold rc1; simp; omega)]
    have e : (k + 1) * 2 + q - (rc1 s.1 g).length = k * 2 + q := by
      show (k + 1) * 2 + q - 2 = _
      omega
    rw [e]
    exact ih
theorem range_r {w : World} {b : Rm} {d : Dk.D} (h : RAt w b d) {k : Nat} (hk : k < d.st.length) : ∃ g, b.S = some ⟨g, 0, none⟩ ∧ g < w.heap.size ∧ w.rangeAt g (k * 2) (rc1 d.st[k].1 (b.gs[k]'(by rw [h.gl]; exact hk))) := by
  obtain ⟨A, cap, e, _, _, hA, hblk⟩ := own_form h.st
  injection e with e1 _ _
  obtain ⟨g, hg⟩ := hA (by omega)
  rw [hg] at e1
  have hb := hblk g (by rw [hg]; simp [blkOf])
  refine ⟨g, e1, hb.2.1, fun q v hv => ?_⟩
  have := h.st.cells (g := g) (by rw [e1]; rfl) (k * 2 + q) v (rcs_get d.st b.gs k hk (by rw [h.gl]; exact hk) q v hv)
  rw [Addr.add_mid, Nat.zero_add] at this
  exact this
/-- In the middle of laying: what is kept is kp, all else as it was. -/
def RMid (w : World) (b : Rm) (d : Dk.D) (kp : List UInt8) (wr : World) : Prop := RAt wr b { d with kept := kp } ∧ RThere wr b ∧ OutP (fun x => x ∈ blkOf b.K) w wr

set_option maxHeartbeats 1600000 in
theorem ref_sync_any (w : World) (b : Rm) (d : Dk.D) (h : RAt w b d) (ht : RThere w b) (hsep : Sep b) (hst : d.st.length ≤ 1048576) :
    Calls Try.prog 15 #[.pointer (some ⟨b.P, 0, none⟩)] w (RInt w b d.syncE d.sync) := by
  have HFA := ref_fails_any w b d h ht hsep
  cases hb : d.bad with
  | true =>
    have HE : Hid (∀ w', RStep w b d.asked w' → RInt w b d.syncE d.sync (.returned (.int .i64 21)) w') := Lib.hid (fun w' hs => by
      unfold Dk.D.syncE Dk.D.sync
      rw [hb, if_pos rfl, if_pos rfl]
      exact ⟨rfl, hs⟩)
    rw [hb] at HFA
    clear hb
    go_enter Try.func15, Try.ntmps15
    go_wp2_with fail
    refine HFA.mono ?_
    rintro e w' ⟨rfl, hs⟩
    have HE2 := Lib.hid (HE.out _ hs)
    clear hs
    go_wp2
    go_ret
    exact HE2.out
  | false =>
    have HE : Hid (∀ w', RStep w b { d.asked with kept := Dk.layAll d.kept d.st, st := [] } w' → RInt w b d.syncE d.sync (.returned (.int .i64 0)) w') := Lib.hid (fun w' hs => by
      unfold Dk.D.syncE Dk.D.sync
      rw [hb]
      exact ⟨rfl, hs⟩)
    rw [hb] at HFA
    clear hb
    have HST0 := Lib.hid (Dk.asked_st d)
    have HKE0 := Lib.hid (Dk.asked_kept d)
    rw [← HST0.out, ← HKE0.out] at HE
    rw [← HST0.out] at hst
    clear HST0 HKE0
    obtain ⟨d1, hd1⟩ : ∃ d1, d1 = d.asked := ⟨_, rfl⟩
    rw [← hd1] at HE HFA hst
    clear hd1
    go_enter Try.func15, Try.ntmps15
    go_wp2_with fail
    refine HFA.mono ?_
    rintro e w1 ⟨rfl, b1, hP1, hat1, ht1, hs1, ho1, hF1⟩
    have HFIN : Hid (∀ wr, RMid w1 b1 d1 (Dk.layAll d1.kept d1.st) wr → RInt w b d.syncE d.sync (.returned (.int .i64 0)) (wr.setCell ⟨b.P, 1, none⟩ (.slice none 0 0))) := Lib.hid (fun wr hm => by
      refine HE.out _ (RStep.after hP1 ho1 hF1 ?_)
      rw [← hP1]
      obtain ⟨q1, q2, q3, q4⟩ := r_drop hm.1 hm.2.1
      refine ⟨{ b1 with S := none, cS := 0, gs := [] }, rfl, q1, q2, (fun x hx => by cases hx), ?_, fun x hx => .inl (q4 x hx)⟩
      exact hm.2.2.trans q3 (fun x _ h => rbmem.2.1 h) (fun x _ h => h))
    have HM0 : RMid w1 b1 d1 d1.kept w1 := ⟨hat1, ht1, OutP.refl _ _⟩
    have HD1 := Lib.hid hat1
    have HT1 := Lib.hid ht1
    have HS1 := Lib.hid hs1
    have HP := Lib.hid hP1
    obtain ⟨m, hm⟩ : ∃ m, m = d1.st.length := ⟨_, rfl⟩
    rw [← hm] at hst
    have HM := Lib.hid hm
    clear hm hat1 ht1 h ht ho1 hF1 HE hP1 HFA hs1
    go_wp2_with fail
    go_loopw [4] (fun iv wr => ∃ k : Nat, k ≤ m ∧ iv = .int .i64 k ∧ RMid w1 b1 d1 (Dk.layAll d1.kept (d1.st.take k)) wr) (fun iv _ => m - (intOf iv).toNat)
    case atStart => exact ⟨0, Nat.zero_le _, rfl, HM0⟩
    case round =>
      obtain ⟨k, hk, rfl, hmid⟩ := hrel
      have p1 := hmid.1.c.2.1
      dsimp only at p1
      rw [HP.out, ← HM.out] at p1
      by_cases hlt : k < m
      · have hkl : k < d1.st.length := by have := HM.out; omega
        obtain ⟨g, hg, hgl, hrange⟩ := range_r hmid.1 hkl
        have hgs : k < b1.gs.length := by rw [hmid.1.gl]; exact hkl
        have hgb := hmid.1.gb k hkl
        have hok := HD1.out.ok.st _ (List.getElem_mem hkl)
        have HSN : Hid (Dk.layAll d1.kept (d1.st.take (k + 1)) = Dk.lay (Dk.layAll d1.kept (d1.st.take k)) d1.st[k] 32) := Lib.hid (by rw [List.take_succ_eq_append_getElem hkl, Dk.layAll_snoc])
        have hgK := HS1.out _ (List.getElem_mem hgs)
        dsimp only at hrange hgb
        obtain ⟨gb, hgbe⟩ : ∃ gb, gb = b1.gs[k]'hgs := ⟨_, rfl⟩
        rw [← hgbe] at hrange hgb hgK
        obtain ⟨⟨at0, y⟩, hs⟩ : ∃ s, s = d1.st[k] := ⟨_, rfl⟩
        rw [← hs] at hrange hok HSN hgb
        dsimp only at hrange hok HSN hgb
        obtain ⟨hok1, hok2⟩ := hok
        obtain ⟨kp, hkp⟩ : ∃ kp, kp = Dk.layAll d1.kept (d1.st.take k) := ⟨_, rfl⟩
        rw [← hkp] at hmid HSN
        have hLay := ref_lay_any wr b1 { d1 with kept := kp } at0 gb 32 y hmid.1 hmid.2.1 HS1.out hok1 hok2 (Nat.le_refl _) hgb hgK
        rw [HP.out] at hLay
        have HMID := Lib.hid hmid
        have hk0 : (0 : Int) ≤ (k : Int) := by omega
        have hkI : (k : Int) < (m : Int) := by omega
        have hbS : b1.S = some ⟨g, 0, none⟩ := hg
        rw [hbS] at p1
        unfold rc1 at hrange
        clear hs hok1 hok2 hkp hkl hmid hgb hgK hgbe hg hbS
        go_wp2_with ((with_reducible refine wpList_load_mid (op := ⟨some 24, _, _, _, _, _⟩) rfl 62 _ rfl g (k * 2) ?_ [.int .i64 (at0 : Int), .slice (some ⟨gb, 0, none⟩) 32 32] _ hrange Try.underlying62 rfl (by kernel_rfl) ?_); exact rfl)
        refine hLay.mono ?_
        rintro e w2 ⟨rfl, hr2, ho2⟩
        have HM2 : Hid (RMid w1 b1 d1 (Dk.lay kp (at0, y) 32) w2) := Lib.hid ⟨hr2, HMID.out.2.1.more ho2.size, HMID.out.2.2.trans ho2 (fun _ _ h => h) (fun _ _ h => h)⟩
        clear hLay hr2 ho2 hrange p1
        go_wp2_with fail
        go_roundw
        case rel => exact ⟨k + 1, by omega, by go_num, by rw [HSN.out]; exact HM2.out⟩
        case measure => simp [intOf]; omega
      · have hkI : ¬ (k : Int) < (m : Int) := by omega
        have HMF : Hid (RMid w1 b1 d1 (Dk.layAll d1.kept d1.st) wr) := Lib.hid (by
          have := HM.out
          rw [List.take_of_length_le (by omega)] at hmid
          exact hmid)
        have HZ := Lib.hid (HFIN.out wr HMF.out)
        have c1 := HMF.out.1.c.2.1
        have f1 := HMF.out.1.fr 1
        dsimp only at c1
        rw [HP.out] at c1 f1
        clear hmid p1
        rw [← HM.out] at c1
        go_wp2_with fail
        go_ret
        exact HZ.out

/-- The plan is empty, the disk on, and goes off no more. -/
theorem r_reset {w : World} {b : Rm} {d : Dk.D} (h : RAt w b d) (ht : RThere w b) :
    RAt (((w.setCell ⟨b.P, 2, none⟩ (.slice none 0 0)).setCell ⟨b.P, 3, none⟩ (.bool false)).setCell ⟨b.P, 4, none⟩ (.int .i64 0)) { b with G := none, cG := 0, lf := 0 } { d with plan := [], left := -1 } ∧ RThere (((w.setCell ⟨b.P, 2, none⟩ (.slice none 0 0)).setCell ⟨b.P, 3, none⟩ (.bool false)).setCell ⟨b.P, 4, none⟩ (.int .i64 0)) { b with G := none, cG := 0, lf := 0 } ∧ OutP (fun x => x ∈ b.F) w (((w.setCell ⟨b.P, 2, none⟩ (.slice none 0 0)).setCell ⟨b.P, 3, none⟩ (.bool false)).setCell ⟨b.P, 4, none⟩ (.int .i64 0)) := by
  have hs : ∀ x, x < w.heap.size → x ≠ b.P → (((w.setCell ⟨b.P, 2, none⟩ (.slice none 0 0)).setCell ⟨b.P, 3, none⟩ (.bool false)).setCell ⟨b.P, 4, none⟩ (.int .i64 0)).heap[x]? = w.heap[x]? := fun x _ hx => by rw [setP_other _ b.P 4 _ x hx, set2_other w b.P 2 3 _ _ x hx]
  refine ⟨h.setP (d' := { d with plan := [], left := -1 }) ht none 0 0 rfl rfl rfl ⟨h.ok.n, h.ok.kept, h.ok.st⟩ ?_ hs (fun h => absurd h (by simp)) (by simp) ⟨by omega, by omega, fun _ => rfl⟩, ⟨fun x hx => ?_⟩, ((out_set (F := fun x => x ∈ b.F) (j := 2) _ (rbmem.1 rfl)).set _ (rbmem.1 rfl)).set _ (rbmem.1 rfl)⟩
  · rw [setP_heap (setP_heap (setP_heap h.disk 2 (.slice none 0 0)) 3 (.bool false)) 4 (.int .i64 0)]
    rfl
  · rw [World.size_setCell, World.size_setCell, World.size_setCell]
    rcases (mem_R _ _).1 hx with h | h | h | h | h
    · exact ht.all x (rbmem.1 h)
    · exact ht.all x (rbmem.2.1 h)
    · exact ht.all x (rbmem.2.2.1 h)
    · cases h
    · exact ht.all x (rbmem.2.2.2.2 h)

set_option maxHeartbeats 3200000 in
theorem ref_crash_any (w : World) (b : Rm) (d : Dk.D) (A : Option Addr) (cap : Nat) (cuts : List UInt8) (h : RAt w b d) (ht : RThere w b) (hsep : Sep b) (hst : d.st.length ≤ 1048576) (hcl : cuts.length ≤ 9223372036854775807) (hA : BIn w A cuts) (hF : 0 < cuts.length → ∀ ad, A = some ad → ad.block ∉ b.F) :
    Calls Try.prog 17 #[.pointer (some ⟨b.P, 0, none⟩), .slice A cuts.length cap] w (RNo w b (d.crash cuts)) := by
  have HFIN : Hid (∀ wr, RMid w b d (Dk.layCut cuts 0 d.kept d.st) wr → RNo w b (d.crash cuts) (.returned (.tuple #[])) ((((wr.setCell ⟨b.P, 1, none⟩ (.slice none 0 0)).setCell ⟨b.P, 2, none⟩ (.slice none 0 0)).setCell ⟨b.P, 3, none⟩ (.bool false)).setCell ⟨b.P, 4, none⟩ (.int .i64 0))) := Lib.hid (fun wr hm => by
    obtain ⟨q1, q2, q3, q4⟩ := r_drop hm.1 hm.2.1
    obtain ⟨p1, p2, p3⟩ := r_reset q1 q2
    refine ⟨rfl, { { b with S := none, cS := 0, gs := [] } with G := none, cG := 0, lf := 0 }, rfl, p1, p2, (fun x hx => by cases hx), ?_, fun x hx => .inl ?_⟩
    · exact (hm.2.2.trans q3 (fun x _ h => rbmem.2.1 h) (fun x _ h => h) (H := fun x => x ∈ b.F)).trans p3 (fun x _ h => h) (fun x _ h => q4 x h)
    · rcases (mem_R _ _).1 hx with h | h | h | h | h
      · exact rbmem.1 h
      · exact rbmem.2.1 h
      · cases h
      · cases h
      · cases h)
  have HM0 : RMid w b d d.kept w := ⟨h, ht, OutP.refl _ _⟩
  have HD1 := Lib.hid h
  have HS1 := Lib.hid hsep
  obtain ⟨m, hm⟩ : ∃ m, m = d.st.length := ⟨_, rfl⟩
  obtain ⟨nc, hnc⟩ : ∃ nc, nc = cuts.length := ⟨_, rfl⟩
  rw [← hm] at hst
  rw [← hnc] at hcl ⊢
  have HM := Lib.hid hm
  have HNC := Lib.hid hnc
  have HAK : Hid (∀ wr, OutP (fun x => x ∈ blkOf b.K) w wr → BIn wr A cuts) := Lib.hid (fun wr ho hn => by
    obtain ⟨bb, off, e, hlt, hc⟩ := hA hn
    have hne : bb ∉ blkOf b.K := fun hx => hF hn _ e (rbmem.2.1 hx)
    exact ⟨bb, off, e, Nat.lt_of_lt_of_le hlt ho.size, fun k hk => (World.cell?_of_block (w := w) (w' := wr) (a := ⟨bb, off + k, none⟩) (ho.block bb hlt hne)).trans (hc k hk)⟩)
  clear hm hnc h ht hsep hA hF
  go_enter Try.func17, Try.ntmps17
  go_wp2_with fail
  go_loopw [4] (fun iv wr => ∃ k : Nat, k ≤ m ∧ iv = .int .i64 k ∧ RMid w b d (Dk.layCut cuts 0 d.kept (d.st.take k)) wr) (fun iv _ => m - (intOf iv).toNat)
  case atStart => exact ⟨0, Nat.zero_le _, rfl, HM0⟩
  case round =>
    obtain ⟨k, hk, rfl, hmid⟩ := hrel
    have p1 := hmid.1.c.2.1
    dsimp only at p1
    rw [← HM.out] at p1
    by_cases hlt : k < m
    · have hkl : k < d.st.length := by have := HM.out; omega
      obtain ⟨g, hg, hgl, hrange⟩ := range_r hmid.1 hkl
      have hgs : k < b.gs.length := by rw [hmid.1.gl]; exact hkl
      have hgb := hmid.1.gb k hkl
      have hok := HD1.out.ok.st _ (List.getElem_mem hkl)
      have HSN : Hid (Dk.layCut cuts 0 d.kept (d.st.take (k + 1)) = Dk.lay (Dk.layCut cuts 0 d.kept (d.st.take k)) d.st[k] (Dk.cutAt cuts k)) := Lib.hid (by rw [List.take_succ_eq_append_getElem hkl, Dk.layCut_snoc, List.length_take, Nat.min_eq_left (by omega), Nat.zero_add])
      have hgK := HS1.out _ (List.getElem_mem hgs)
      dsimp only at hrange hgb
      obtain ⟨gb, hgbe⟩ : ∃ gb, gb = b.gs[k]'hgs := ⟨_, rfl⟩
      rw [← hgbe] at hrange hgb hgK
      obtain ⟨⟨at0, y⟩, hs⟩ : ∃ s, s = d.st[k] := ⟨_, rfl⟩
      rw [← hs] at hrange hok HSN hgb
      dsimp only at hrange hok HSN hgb
      obtain ⟨hok1, hok2⟩ := hok
      obtain ⟨kp, hkp⟩ : ∃ kp, kp = Dk.layCut cuts 0 d.kept (d.st.take k) := ⟨_, rfl⟩
      rw [← hkp] at hmid HSN
      obtain ⟨q, hq⟩ : ∃ q, q = Dk.cutAt cuts k := ⟨_, rfl⟩
      have hq32 : q ≤ 32 := by
        rw [hq]
        unfold Dk.cutAt
        split
        · omega
        · omega
      rw [← hq] at HSN
      have hLay := ref_lay_any wr b { d with kept := kp } at0 gb q y hmid.1 hmid.2.1 HS1.out hok1 hok2 hq32 hgb hgK
      have HMID := Lib.hid hmid
      have hk0 : (0 : Int) ≤ (k : Int) := by omega
      have hkI : (k : Int) < (m : Int) := by omega
      have hbS : b.S = some ⟨g, 0, none⟩ := hg
      rw [hbS] at p1
      unfold rc1 at hrange
      have HQ := Lib.hid hq
      clear hs hok1 hok2 hkp hkl hmid hgb hgK hgbe hg hbS hq
      by_cases hkc : k < nc
      · have hkcI : (k : Int) < (nc : Int) := by omega
        have hkc2 : k < cuts.length := by have := HNC.out; omega
        obtain ⟨bb, off, hAe, hbb, hcell⟩ := HAK.out wr HMID.out.2.2 (by omega)
        have hcc := hcell k hkc2
        have hqx : q = (cuts[k]'hkc2).toNat % 33 := by rw [HQ.out]; unfold Dk.cutAt; rw [dif_pos hkc2]
        obtain ⟨x, hx⟩ : ∃ x, x = (cuts[k]'hkc2).toNat := ⟨_, rfl⟩
        have hx256 : x < 256 := by rw [hx]; exact (cuts[k]'hkc2).toNat_lt
        unfold B at hcc
        rw [← hx] at hcc hqx
        have x0 : (0 : Int) ≤ (x : Int) := by omega
        have x2 : (x : Int) % 33 = (q : Int) := by omega
        have x3 : (x : Int).tmod 33 = (q : Int) := by rw [Int.tmod_eq_emod_of_nonneg x0]; exact x2
        have x4 : x % 33 = q := hqx.symm
        rw [hAe]
        clear hcell hqx hx hAe hbb hkc2
        go_wp2_with ((with_reducible refine wpList_load_mid (op := ⟨some 32, _, _, _, _, _⟩) rfl 62 _ rfl g (k * 2) ?_ [.int .i64 (at0 : Int), .slice (some ⟨gb, 0, none⟩) 32 32] _ hrange Try.underlying62 rfl (by kernel_rfl) ?_); exact rfl)
        refine hLay.mono ?_
        rintro e w2 ⟨rfl, hr2, ho2⟩
        have HM2 : Hid (RMid w b d (Dk.lay kp (at0, y) q) w2) := Lib.hid ⟨hr2, HMID.out.2.1.more ho2.size, HMID.out.2.2.trans ho2 (fun _ _ h => h) (fun _ _ h => h)⟩
        clear hLay hr2 ho2 hrange p1 hcc
        go_wp2_with fail
        go_roundw
        case rel => exact ⟨k + 1, by omega, by go_num, by rw [HSN.out]; exact HM2.out⟩
        case measure => simp [intOf]; omega
      · have hkcI : ¬ (k : Int) < (nc : Int) := by omega
        have hq0 : q = 0 := by rw [HQ.out]; unfold Dk.cutAt; rw [dif_neg (by have := HNC.out; omega)]
        rw [hq0] at hLay HSN
        clear hq0
        go_wp2_with ((with_reducible refine wpList_load_mid (op := ⟨some 32, _, _, _, _, _⟩) rfl 62 _ rfl g (k * 2) ?_ [.int .i64 (at0 : Int), .slice (some ⟨gb, 0, none⟩) 32 32] _ hrange Try.underlying62 rfl (by kernel_rfl) ?_); exact rfl)
        refine hLay.mono ?_
        rintro e w2 ⟨rfl, hr2, ho2⟩
        have HM2 : Hid (RMid w b d (Dk.lay kp (at0, y) 0) w2) := Lib.hid ⟨hr2, HMID.out.2.1.more ho2.size, HMID.out.2.2.trans ho2 (fun _ _ h => h) (fun _ _ h => h)⟩
        clear hLay hr2 ho2 hrange p1
        go_wp2_with fail
        go_roundw
        case rel => exact ⟨k + 1, by omega, by go_num, by rw [HSN.out]; exact HM2.out⟩
        case measure => simp [intOf]; omega
    · have hkI : ¬ (k : Int) < (m : Int) := by omega
      have HMF : Hid (RMid w b d (Dk.layCut cuts 0 d.kept d.st) wr) := Lib.hid (by
        have := HM.out
        rw [List.take_of_length_le (by omega)] at hmid
        exact hmid)
      have HZ := Lib.hid (HFIN.out wr HMF.out)
      obtain ⟨_, c1, c2, c3, c4⟩ := HMF.out.1.c
      have f1 := HMF.out.1.fr 1
      have f2 := HMF.out.1.fr 2
      have f3 := HMF.out.1.fr 3
      have f4 := HMF.out.1.fr 4
      dsimp only at c1 c2 c3 c4
      clear hmid p1
      rw [← HM.out] at c1
      go_wp2_with fail
      go_end0
      exact HZ.out
end Go.Proofs.Ytoaadallbpelbaa
