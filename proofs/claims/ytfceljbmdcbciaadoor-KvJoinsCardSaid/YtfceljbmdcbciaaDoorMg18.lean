/- The program's own Scan of package frame, for any bytes of at most 2^24. What the program's calls of package frame tell, as the one structure, where the table of sums reads as its text lays it. -/
import Derived.Test.YtfceljbmdcbciaaDoorMg17
import Derived.BigQuiet
namespace Go.Proofs.YtfceljbmdcbciaaDoor
set_option maxRecDepth 100000
open Go.RowKit
attribute [local go_sem] Oper.semAt_some

theorem LRow.cap {base : Nat} {w : World} {A : Option Addr} {n c : Nat} {l : List (List UInt8)} {cs : List Value} (h : LRow base w A n c l cs) : n ≤ c ∧ c ≤ 9223372036854775807 := by
  rcases h.row.2 with ⟨h1, h2⟩ | ⟨g, cap, cur, h1, _, _, h2, h3, _⟩
  · injection h1 with _ e1 e2
    subst e2
    omega
  · injection h1 with _ e1 e2
    subst e2
    unfold maxLen at h3
    omega

/-- What Scan tells, and that the list is the call's own. -/
def ToldOwn (l : List UInt8) (w : World) (e : Ending) (w' : World) : Prop :=
  ∃ A c m cs, e = .returned (.tuple #[.slice A m c, .int .i64 ((Fr.scan l).2 : Int)]) ∧ LRow w.heap.size w' A m c (Fr.scan l).1 cs ∧ Below w.heap.size w w'
theorem ToldOwn.told {l : List UInt8} {w : World} {e : Ending} {w' : World} (h : ToldOwn l w e w') : ToldPost l w e w' := by
  obtain ⟨A, c, m, cs, he, hl, hb⟩ := h
  exact ⟨A, c, m, he, hl.len, hl.cap.1, hl.cap.2, hl.lc, hb⟩
theorem LRow.base {base base' : Nat} {w : World} {A : Option Addr} {n c : Nat} {l : List (List UInt8)} {cs : List Value} (h : LRow base w A n c l cs) (hb : base' ≤ base) : LRow base' w A n c l cs := by
  refine ⟨h.len, ⟨h.row.1, ?_⟩, fun k hk => ?_⟩
  · rcases h.row.2 with h1 | ⟨g, cap, cur, hv, hbs, hr⟩
    · exact .inl h1
    · exact .inr ⟨g, cap, cur, hv, Nat.le_trans hb hbs, hr⟩
  · obtain ⟨Ak, ck, e1, e2, e3⟩ := h.el k hk
    exact ⟨Ak, ck, e1, e2, fun b hb' => ⟨Nat.le_trans hb (e3 b hb').1, (e3 b hb').2⟩⟩

set_option maxHeartbeats 4000000 in
theorem scan_own (A : Option Addr) (c n : Nat) (l : List UInt8) (w : World) (hH : Hs w) (hn : l.length = n) (hb : BCells w w.heap.size A l) (hc : n ≤ c) (hcm : c ≤ 9223372036854775807) (hl : n ≤ 16777216) :
    Calls Tryd.prog 45 #[.slice A n c] w (ToldOwn l w) := by
  have HN := Lib.hid hn
  have HB := Lib.hid hb
  clear hn hb
  refine (callsIn_wide (n := 5)).1 ?_
  refine callsIn_of_wp_marks Tryd.func45 rfl trivial ?_ rfl
  simp only [Tryd.ntmps45, List.size_toArray, List.length_cons, List.length_nil, Nat.reduceAdd, Nat.reduceSub, Array.replicate_succ, Array.replicate_zero, List.push_toArray, List.append_toArray, List.nil_append, List.cons_append]
  gi_wp2_with (refine ⟨trivial, ?_⟩; gi_at_call 77; refine (callsIn_wide.2 (frames_any A c n _)).mono ?_; rintro _ w2 ⟨rfl, rfl⟩)
  have hw0 := heap_alloc_new w (.cells #[.slice none 0 0] 37)
  obtain ⟨g1, hg1⟩ : ∃ g1, g1 = w.heap.size := ⟨_, rfl⟩
  obtain ⟨wa, hwa⟩ : ∃ wa, wa = w.alloc (.cells #[.slice none 0 0] 37) := ⟨_, rfl⟩
  have ba : Boxed wa g1 37 (.slice none 0 0) := by rw [hwa, hg1]; exact heap_alloc_new w _
  have hba : Below w.heap.size w wa := by rw [hwa]; exact (Below.refl _ _).alloc (Nat.le_refl _) _
  have hza : wa.heap.size = g1 + 1 := by rw [hwa, hg1]; simp
  obtain ⟨g2, hg2⟩ : ∃ g2, g2 = g1 + 1 := ⟨_, rfl⟩
  obtain ⟨wb, hwb⟩ : ∃ wb, wb = wa.alloc (.cells #[.int .i64 0] 3) := ⟨_, rfl⟩
  have bb1 : Boxed wb g1 37 (.slice none 0 0) := by rw [hwb]; exact ba.alloc _
  have bb2 : Boxed wb g2 3 (.int .i64 0) := by rw [hwb, hg2, ← hza]; exact heap_alloc_new wa _
  have hbb : Below wa.heap.size wa wb := by rw [hwb]; exact (Below.refl _ _).alloc (Nat.le_refl _) _
  have hzb : wb.heap.size = g2 + 1 := by rw [hwb, hg2]; simp [hza]
  obtain ⟨g3, hg3⟩ : ∃ g3, g3 = g2 + 1 := ⟨_, rfl⟩
  obtain ⟨W0, hW0⟩ : ∃ W0, W0 = wb.alloc (.cells #[.slice A n c] 36) := ⟨_, rfl⟩
  have bc1 : Boxed W0 g1 37 (.slice none 0 0) := by rw [hW0]; exact bb1.alloc _
  have bc2 : Boxed W0 g2 3 (.int .i64 0) := by rw [hW0]; exact bb2.alloc _
  have bc3 : Boxed W0 g3 36 (.slice A n c) := by rw [hW0, hg3, ← hzb]; exact heap_alloc_new wb _
  have hbc : Below wb.heap.size wb W0 := by rw [hW0]; exact (Below.refl _ _).alloc (Nat.le_refl _) _
  have hzc : W0.heap.size = g3 + 1 := by rw [hW0, hg3]; simp [hzb]
  have hbW : Below w.heap.size w W0 := (hba.trans (hbb.mono (by omega))).trans (hbc.mono (by omega))
  rw [← hwa, ← hwb, ← hW0, ← hg1, ← hg2, ← hg3]
  clear hw0 hwa hwb hW0 ba bb1 bb2 hba hbb hbc
  have hge : w.heap.size ≤ g1 := by omega
  have HG := Lib.hid (And.intro hg1 (And.intro hg2 hg3))
  have HZ := Lib.hid hzc
  clear hg1 hg2 hg3 hza hzb hzc
  refine scan_loop (A := A) (c := c) (n := n) (l := l) (w := w) (g1 := g1) (g2 := g2) (g3 := g3) (fun v => { tmps := #[.slice A n c, undef, .slice none 0 0, .int .i64 0, .pointer (some ⟨g1, 0, none⟩), .pointer (some ⟨g2, 0, none⟩), v, .slice A n c, .func (.func 105) #[] #[.pointer (some ⟨g3, 0, none⟩)], v, undef, undef, undef, undef, undef, undef, undef, undef, undef, undef, undef], defers := [] })
    rfl bc1 bc2 bc3 hge hbW hH HB.out HN.out hc hcm hl ?assign ?body ?done
  case assign =>
    intro lp v W K hK
    gi_wp2
    exact hK
  case body =>
    intro W1 R acc b x g cf fl W Ar m cr cs hs hbx hmb hlr hfl hfc hcm2 hxc hg hgs hgn hx0 hbl
    have hc1 := hbx.cell
    have k1 : (6 : Int) ≤ (fl : Int) := by omega
    have k2 : (fl : Int) ≤ (cf : Int) := by omega
    have k3 : ¬ cf = 6 := by omega
    have k4 : ¬ cf ≤ 6 := by omega
    have k5 : (cf == 6) = false := by simp; omega
    obtain ⟨xl, hxl⟩ : ∃ xl, fl - 6 = xl := ⟨_, rfl⟩
    obtain ⟨c6, hc6⟩ : ∃ c6, cf - 6 = c6 := ⟨_, rfl⟩
    have k6 : ¬ c6 = 0 := by omega
    obtain ⟨e, he⟩ : ∃ e, e = b + fl := ⟨_, rfl⟩
    have hwa : IntKind.i64.wrap ((b : Int) + (fl : Int)) = (e : Int) := by rw [IntWalk.i64_in _ (by omega)]; omega
    have hd : Below W.heap.size W (W.alloc (.cells #[.slice (some ⟨g, 6, none⟩) xl c6] 36)).drew := ((Below.refl _ _).alloc (Nat.le_refl _) _).drew
    have hbl9 : (W.alloc (.cells #[.slice (some ⟨g, 6, none⟩) xl c6] 36)).drew.heap[W.heap.size]? = some (.cells #[.slice (some ⟨g, 6, none⟩) xl c6] 36 (0, 0)) := heap_alloc_new W _
    have hbz : W0.heap.size + 2 ≤ (W.alloc (.cells #[.slice (some ⟨g, 6, none⟩) xl c6] 36)).drew.heap.size := by have := hd.size; omega
    have hrw := (hlr.next hd).row
    have HPU := Lib.hid (fun w9 gg cap h1 h2 h3 => SJ.push (w9 := w9) (gg := gg) (cap := cap) (c6 := c6) hs (by have := HZ.out; have := HG.out; omega) (by have := HZ.out; have := HG.out; omega) hge (by have := HG.out; omega) (by have := HG.out; omega) (by omega) hbx hlr (by omega : xl = x.length) hxc hg hgs hgn hd h1 h2 h3)
    have HX := Lib.hid (And.intro hfl hxl)
    have HHS := Lib.hid hs
    have hme : m + 1 ≤ e := by omega
    have hm16 : m ≤ 16777216 := by omega
    rw [← he]
    have hc1' : (W.alloc (.cells #[.slice (some ⟨g, 6, none⟩) xl c6] 36)).cell? ⟨g1, 0, none⟩ = some (.slice Ar m cr) := (hbx.alloc _).cell
    clear hfl hs hd he
    gi_wp2
    refine wpIn_region_any (by kernel_rfl) ?_
    change wpAnyIn _ _ _ _ _ _ _ _ _ (World.drew _)
    refine wpAnyIn_ready (rs := [0, 1]) (by kernel_rfl) (by simp) ?_
    refine AllReadyIn.cons rfl (fun K hK => ?_) (AllReadyIn.cons rfl (fun K hK => ?_) AllReadyIn.nil)
    · go_simp
      refine hK _ _ ?_
      clear hK K
      refine wpAnyIn_ready (rs := [1]) (by kernel_rfl) (by simp) ?_
      refine AllReadyIn.cons rfl (fun K hK => ?_) AllReadyIn.nil
      go_simp
      refine hK _ _ ?_
      clear hK K
      refine wpAnyIn_ready (rs := [2]) (by kernel_rfl) (by simp) ?_
      refine AllReadyIn.cons rfl (fun K hK => ?_) AllReadyIn.nil
      go_simp
      refine hK _ _ ?_
      clear hK K
      refine wpAnyIn_ready (rs := [3]) (by kernel_rfl) (by simp) ?_
      refine AllReadyIn.cons rfl (fun K hK => ?_) AllReadyIn.nil
      go_simp
      refine hK _ _ ?_
      clear hK K
      refine wpAnyIn_ready (rs := [4]) (by kernel_rfl) (by simp) ?_
      refine AllReadyIn.cons rfl (fun K hK => ?_) AllReadyIn.nil
      refine stepIn_push (B := W.heap.size) (base := W0.heap.size + 2) (n := m) _ (.tmp 10) (.tmp 13) (.slice Ar m cr) (.slice (some ⟨g, 6, none⟩) xl c6) cs rfl rfl rfl rfl hrw hbl9 rfl (by omega) hbz ?_
      intro gg cp w9 hown9 hgrow9 hat9
      refine hK _ _ ?_
      clear hK K
      obtain ⟨hb9, hn10, hend⟩ := HPU.out w9 gg cp hown9 hgrow9 hat9
      have hc9 := hb9.cell
      have hf9 := hb9.frozen
      have hc10 := hn10.cell
      have hf10 := hn10.frozen
      have HEND := Lib.hid (hend e (by omega))
      clear hend hown9 hgrow9 hat9 hb9 hn10
      refine wpAnyIn_ready (rs := [5]) (by kernel_rfl) (by simp) ?_
      refine AllReadyIn.cons rfl (fun K hK => ?_) AllReadyIn.nil
      go_simp
      refine hK _ _ ?_
      clear hK K
      refine wpAnyIn_done (by kernel_rfl) ?_ _
      gi_wp2
      exact HEND.out
    · go_simp
      refine hK _ _ ?_
      clear hK K
      refine wpAnyIn_ready (rs := [0, 2]) (by kernel_rfl) (by simp) ?_
      refine AllReadyIn.cons rfl (fun K hK => ?_) (AllReadyIn.cons rfl (fun K hK => ?_) AllReadyIn.nil)
      · go_simp
        refine hK _ _ ?_
        clear hK K
        refine wpAnyIn_ready (rs := [2]) (by kernel_rfl) (by simp) ?_
        refine AllReadyIn.cons rfl (fun K hK => ?_) AllReadyIn.nil
        go_simp
        refine hK _ _ ?_
        clear hK K
        refine wpAnyIn_ready (rs := [3]) (by kernel_rfl) (by simp) ?_
        refine AllReadyIn.cons rfl (fun K hK => ?_) AllReadyIn.nil
        go_simp
        refine hK _ _ ?_
        clear hK K
        refine wpAnyIn_ready (rs := [4]) (by kernel_rfl) (by simp) ?_
        refine AllReadyIn.cons rfl (fun K hK => ?_) AllReadyIn.nil
        refine stepIn_push (B := W.heap.size) (base := W0.heap.size + 2) (n := m) _ (.tmp 10) (.tmp 13) (.slice Ar m cr) (.slice (some ⟨g, 6, none⟩) xl c6) cs rfl rfl rfl rfl hrw hbl9 rfl (by omega) hbz ?_
        intro gg cp w9 hown9 hgrow9 hat9
        refine hK _ _ ?_
        clear hK K
        obtain ⟨hb9, hn10, hend⟩ := HPU.out w9 gg cp hown9 hgrow9 hat9
        have hc9 := hb9.cell
        have hf9 := hb9.frozen
        have hc10 := hn10.cell
        have hf10 := hn10.frozen
        have HEND := Lib.hid (hend e (by omega))
        clear hend hown9 hgrow9 hat9 hb9 hn10
        refine wpAnyIn_ready (rs := [5]) (by kernel_rfl) (by simp) ?_
        refine AllReadyIn.cons rfl (fun K hK => ?_) AllReadyIn.nil
        go_simp
        refine hK _ _ ?_
        clear hK K
        refine wpAnyIn_done (by kernel_rfl) ?_ _
        gi_wp2
        exact HEND.out
      · go_simp
        refine hK _ _ ?_
        clear hK K
        refine wpAnyIn_ready (rs := [0, 3]) (by kernel_rfl) (by simp) ?_
        refine AllReadyIn.cons rfl (fun K hK => ?_) (AllReadyIn.cons rfl (fun K hK => ?_) AllReadyIn.nil)
        · go_simp
          refine hK _ _ ?_
          clear hK K
          refine wpAnyIn_ready (rs := [3]) (by kernel_rfl) (by simp) ?_
          refine AllReadyIn.cons rfl (fun K hK => ?_) AllReadyIn.nil
          go_simp
          refine hK _ _ ?_
          clear hK K
          refine wpAnyIn_ready (rs := [4]) (by kernel_rfl) (by simp) ?_
          refine AllReadyIn.cons rfl (fun K hK => ?_) AllReadyIn.nil
          refine stepIn_push (B := W.heap.size) (base := W0.heap.size + 2) (n := m) _ (.tmp 10) (.tmp 13) (.slice Ar m cr) (.slice (some ⟨g, 6, none⟩) xl c6) cs rfl rfl rfl rfl hrw hbl9 rfl (by omega) hbz ?_
          intro gg cp w9 hown9 hgrow9 hat9
          refine hK _ _ ?_
          clear hK K
          obtain ⟨hb9, hn10, hend⟩ := HPU.out w9 gg cp hown9 hgrow9 hat9
          have hc9 := hb9.cell
          have hf9 := hb9.frozen
          have hc10 := hn10.cell
          have hf10 := hn10.frozen
          have HEND := Lib.hid (hend e (by omega))
          clear hend hown9 hgrow9 hat9 hb9 hn10
          refine wpAnyIn_ready (rs := [5]) (by kernel_rfl) (by simp) ?_
          refine AllReadyIn.cons rfl (fun K hK => ?_) AllReadyIn.nil
          go_simp
          refine hK _ _ ?_
          clear hK K
          refine wpAnyIn_done (by kernel_rfl) ?_ _
          gi_wp2
          exact HEND.out
        · go_simp
          refine hK _ _ ?_
          clear hK K
          refine wpAnyIn_ready (rs := [0]) (by kernel_rfl) (by simp) ?_
          refine AllReadyIn.cons rfl (fun K hK => ?_) AllReadyIn.nil
          go_simp
          refine hK _ _ ?_
          clear hK K
          refine wpAnyIn_ready (rs := [4]) (by kernel_rfl) (by simp) ?_
          refine AllReadyIn.cons rfl (fun K hK => ?_) AllReadyIn.nil
          refine stepIn_push (B := W.heap.size) (base := W0.heap.size + 2) (n := m) _ (.tmp 10) (.tmp 13) (.slice Ar m cr) (.slice (some ⟨g, 6, none⟩) xl c6) cs rfl rfl rfl rfl hrw hbl9 rfl (by omega) hbz ?_
          intro gg cp w9 hown9 hgrow9 hat9
          refine hK _ _ ?_
          clear hK K
          obtain ⟨hb9, hn10, hend⟩ := HPU.out w9 gg cp hown9 hgrow9 hat9
          have hc9 := hb9.cell
          have hf9 := hb9.frozen
          have hc10 := hn10.cell
          have hf10 := hn10.frozen
          have HEND := Lib.hid (hend e (by omega))
          clear hend hown9 hgrow9 hat9 hb9 hn10
          refine wpAnyIn_ready (rs := [5]) (by kernel_rfl) (by simp) ?_
          refine AllReadyIn.cons rfl (fun K hK => ?_) AllReadyIn.nil
          go_simp
          refine hK _ _ ?_
          clear hK K
          refine wpAnyIn_done (by kernel_rfl) ?_ _
          gi_wp2
          exact HEND.out
  case done =>
    intro W1 R acc b W hsc hs
    obtain ⟨Ar, m, cr, cs, hbx, hmb, hlr⟩ := hs.recs
    have hc1 := hbx.cell
    have hc2 := hs.num.cell
    gi_wp2
    gi_region
    have HS := Lib.hid hsc
    have hK := hs.df
    gi_wp2
    refine ⟨by simp, .inl ⟨_, _, rfl, run_takeDeferred (w := W.drew) hK, ?_⟩⟩
    have hlt : W0.heap.size < W.drew.heap.size := (Array.getElem?_eq_some_iff.1 hK).1
    have hb2 : Below w.heap.size W.drew (W.drew.putObj W0.heap.size (.deferred none)) := (Below.refl _ _).grown (grownBy_putObj' W.drew _ _) (by have := hs.b0.size; exact this) (fun k e => by cases e; exact hbW.size)
    have hlr2 : LRow (W0.heap.size + 2) (W.drew.putObj W0.heap.size (.deferred none)) Ar m cr acc cs := (hlr.next (Below.refl _ _).drew).far (fun k hk => World.putObj_heap_other (by omega)) (by rw [World.putObj_size]; exact Nat.le_refl _)
    refine ⟨_, results_tmp2 rfl _ _ _, Ar, cr, m, cs, ?_, ?_, hs.b0.drew.trans hb2⟩
    · rw [HS.out]; rfl
    · rw [HS.out]; exact hlr2.base (by have := hbW.size; omega)
theorem scan_any (A : Option Addr) (c n : Nat) (l : List UInt8) (w : World) (hH : Hs w) (hn : l.length = n) (hb : BCells w w.heap.size A l) (hc : n ≤ c) (hcm : c ≤ 9223372036854775807) (hl : n ≤ 16777216) :
    Calls Tryd.prog 45 #[.slice A n c] w (ToldPost l w) := (scan_own A c n l w hH hn hb hc hcm hl).mono (fun _ _ h => h.told)
end Go.Proofs.YtfceljbmdcbciaaDoor
namespace Go.Proofs.YtfceljbmdcbciaaDoor
set_option maxRecDepth 8000
open Go.RowKit

theorem frOk : FrOk Hs where
  next := fun _ _ h hb => h.next hb
  put := fun A c n l w h hn hb hc hcm => put_any A c n l w h hn hb (by omega)
  all := fun A c n l w h hn hl hc hcm ht hq => all_any A c n l w h hn hl ht hq (by omega)
  scan := fun A c n l w h hn hb hc hcm hl => scan_any A c n l w h hn hb hc hcm hl
  size := fun n w _ hn => (size_any n w hn).mono (fun _ _ ⟨h1, h2⟩ => ⟨h1, by subst h2; exact Below.refl _ _⟩)
end Go.Proofs.YtfceljbmdcbciaaDoor
