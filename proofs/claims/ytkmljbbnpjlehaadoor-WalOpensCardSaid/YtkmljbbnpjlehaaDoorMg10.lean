/- The loop of the program's own Scan over its iterator, for whatever code keeps what a round must. The program's own Scan of package frame, for any bytes of at most 2^24. -/
import Derived.Test.YtkmljbbnpjlehaaDoorMg09
import Derived.BigQuiet
namespace Go.Proofs.YtkmljbbnpjlehaaDoor
set_option maxRecDepth 100000
open Go.RowKit

theorem SJ.busy {w W1 : World} {g1 g2 D base : Nat} {R R' : Loop} {acc : List (List UInt8)} {b : Nat} {W : World} (h : SJ w W1 g1 g2 D (D + 1) base R acc b W) (hg1 : g1 < D) (hg2 : g2 < D) (hw : w.heap.size ≤ g1) (hb : D + 1 < base) : SJ w W1 g1 g2 D (D + 1) base R' acc b (W.putObj (D + 1) (.loop R')) ∧ Below w.heap.size W (W.putObj (D + 1) (.loop R')) := by
  obtain ⟨A, m, c, cs, h1, h2, h3⟩ := h.recs
  have hlt : D + 1 < W.heap.size := (Array.getElem?_eq_some_iff.1 h.lp).1
  have hbe : Below w.heap.size W (W.putObj (D + 1) (.loop R')) := (Below.refl _ _).grown (grownBy_putObj' W _ _) (by have := h.b0.size; omega) (fun k e => by cases e; omega)
  have hfar : ∀ k, k ≠ D + 1 → (W.putObj (D + 1) (.loop R')).heap[k]? = W.heap[k]? := fun k hk => World.putObj_heap_other hk
  refine ⟨⟨h.b0.trans hbe, h.b1.trans hbe, by rw [World.putObj_size]; exact h.sz, ⟨A, m, c, cs, (hfar g1 (by omega)).trans h1, h2, h3.far (fun k hk => hfar k (by omega)) (by rw [World.putObj_size]; exact Nat.le_refl _)⟩, (hfar g2 (by omega)).trans h.num, (hfar D (by omega)).trans h.df, World.putObj_heap_same hlt⟩, hbe⟩

/-- A round's append, and its two stores. -/
theorem SJ.push {w W1 W Wd w9 : World} {g1 g2 D base b m cr g xl c6 gg cap : Nat} {R : Loop} {acc : List (List UInt8)} {x : List UInt8} {Ar : Option Addr} {cs : List Value}
    (h : SJ w W1 g1 g2 D (D + 1) base R acc b W) (hg1 : g1 < D) (hg2 : g2 < D) (hw1 : w.heap.size ≤ g1) (hw2 : w.heap.size ≤ g2) (h12 : g1 ≠ g2) (hb : D + 1 < base)
    (hbx : Boxed W g1 37 (.slice Ar m cr)) (hlr : LRow base W Ar m cr acc cs) (hxl : xl = x.length) (hxc : BCells W W.heap.size (some ⟨g, 6, none⟩) x) (hg : base ≤ g) (hgs : g < W.heap.size) (hgn : g ∉ blkOf Ar)
    (hd : Below W.heap.size W Wd) (hrow : w9.ownsRow base 36 1 (.slice (some ⟨gg, 0, none⟩) (m + 1) cap) (m + 1) (cs ++ [.slice (some ⟨g, 6, none⟩) xl c6])) (hgrow : Wd.grownBy w9 (Value.slice Ar m cr).ownBlock) (hat : (Value.slice Ar m cr).ownBlock = some gg ∨ gg = Wd.heap.size) :
    Boxed w9 g1 37 (.slice Ar m cr) ∧ Boxed (w9.setCell ⟨g1, 0, none⟩ (.slice (some ⟨gg, 0, none⟩) (m + 1) cap)) g2 3 (.int .i64 (b : Int)) ∧
      ∀ e : Nat, m + 1 ≤ e → SJ w W1 g1 g2 D (D + 1) base R (acc ++ [x]) e ((w9.setCell ⟨g1, 0, none⟩ (.slice (some ⟨gg, 0, none⟩) (m + 1) cap)).setCell ⟨g2, 0, none⟩ (.int .i64 (e : Int))) ∧
        Below w.heap.size W ((w9.setCell ⟨g1, 0, none⟩ (.slice (some ⟨gg, 0, none⟩) (m + 1) cap)).setCell ⟨g2, 0, none⟩ (.int .i64 (e : Int))) := by
  have hlrd := hlr.next hd
  have hsz := h.b0.size
  have hlow := h.sz
  have hown := hlrd.own
  have hds := hd.size
  have hkeep : ∀ k, k < base → w9.heap[k]? = W.heap[k]? := fun k hk => by
    rw [hgrow.block k (by omega) (fun e => by have := hown k e.symm; omega)]
    exact hd.block k (by omega)
  have hb9 : Boxed w9 g1 37 (.slice Ar m cr) := (hkeep g1 (by omega)).trans hbx
  have hn9 : Boxed w9 g2 3 (.int .i64 (b : Int)) := (hkeep g2 (by omega)).trans h.num
  have hl9 : LRow base w9 (some ⟨gg, 0, none⟩) (m + 1) cap (acc ++ [x]) (cs ++ [.slice (some ⟨g, 6, none⟩) xl c6]) :=
    LRow.push hlrd hxl (hxc.next hd) (fun k hk => by
      simp only [blkOf, List.mem_singleton] at hk
      subst hk
      exact ⟨hg, by omega, hgn⟩) hrow hgrow hat
  have hbe9 : Below w.heap.size W w9 := (hd.mono hsz).grown hgrow (by omega) (fun k hk => by have := hown k hk; omega)
  obtain ⟨w10, hw10⟩ : ∃ w10, w10 = w9.setCell ⟨g1, 0, none⟩ (.slice (some ⟨gg, 0, none⟩) (m + 1) cap) := ⟨_, rfl⟩
  have hf10 : ∀ k, k ≠ g1 → w10.heap[k]? = w9.heap[k]? := fun k hk => by rw [hw10]; exact Below.heap_setCell _ _ _ k hk
  have hz10 : w9.heap.size ≤ w10.heap.size := by rw [hw10]; exact (grownBy_setCell' w9 g1 _).size
  have hb10 : Boxed w10 g1 37 (.slice (some ⟨gg, 0, none⟩) (m + 1) cap) := by rw [hw10]; exact hb9.set _
  have hn10 : Boxed w10 g2 3 (.int .i64 (b : Int)) := (hf10 g2 (fun e => h12 e.symm)).trans hn9
  have hbe10 : Below w.heap.size W w10 := by rw [hw10]; exact hbe9.setCell (p := ⟨g1, 0, none⟩) hw1 _
  rw [← hw10]
  refine ⟨hb9, hn10, fun e he => ?_⟩
  obtain ⟨w11, hw11⟩ : ∃ w11, w11 = w10.setCell ⟨g2, 0, none⟩ (.int .i64 (e : Int)) := ⟨_, rfl⟩
  have hf11 : ∀ k, k ≠ g2 → w11.heap[k]? = w10.heap[k]? := fun k hk => by rw [hw11]; exact Below.heap_setCell _ _ _ k hk
  have hz11 : w10.heap.size ≤ w11.heap.size := by rw [hw11]; exact (grownBy_setCell' w10 g2 _).size
  have hbe11 : Below w.heap.size W w11 := by rw [hw11]; exact hbe10.setCell (p := ⟨g2, 0, none⟩) hw2 _
  have hall : ∀ k, k ≠ g1 → k ≠ g2 → w11.heap[k]? = w9.heap[k]? := fun k h1 h2 => (hf11 k h2).trans (hf10 k h1)
  rw [← hw11]
  refine ⟨⟨h.b0.trans hbe11, h.b1.trans hbe11, ?_, ⟨some ⟨gg, 0, none⟩, m + 1, cap, _, (hf11 g1 h12).trans hb10, he, hl9.far (fun k hk => hall k (by omega) (by omega)) (Nat.le_trans hz10 hz11)⟩, by rw [hw11]; exact hn10.set _, ?_, ?_⟩, hbe11⟩
  · have := hgrow.size; omega
  · rw [hall D (by omega) (by omega), hkeep D (by omega)]; exact h.df
  · rw [hall (D + 1) (by omega) (by omega), hkeep (D + 1) (by omega)]; exact h.lp

set_option maxHeartbeats 1000000 in
theorem scan_loop {asg body : Code} {Q : Exit → Act → World → Prop} {a : Act} {w W0 : World} {g1 g2 g3 c n : Nat} {A : Option Addr} {l : List UInt8} (a₁ : Value → Act)
    (ha : a.eval (.tmp 8) = .func (.func 118) #[] #[.pointer (some ⟨g3, 0, none⟩)])
    (h1 : Boxed W0 g1 37 (.slice none 0 0)) (h2 : Boxed W0 g2 3 (.int .i64 0)) (h3 : Boxed W0 g3 36 (.slice A n c)) (hg1 : w.heap.size ≤ g1)
    (hbW : Below w.heap.size w W0) (hH : Hs w) (hb : BCells w w.heap.size A l) (hn : l.length = n) (hc : n ≤ c) (hcm : c ≤ 9223372036854775807) (hl : n ≤ 16777216)
    (hassign : ∀ (lp : Nat) (v : Value) (W : World) (K : Act → World → Prop), K (a₁ v) W → asg.wpIn (Fence.wide.inRound lp) 3 Tryd.prog (Exit.then K fun _ _ _ => False) { tmps := a.tmps.setIfInBounds 9 v, defers := [] } W)
    (hbody : ∀ (W1 : World) (R : Loop) (acc : List (List UInt8)) (b : Nat) (x : List UInt8) (g cf fl : Nat) (W : World) (Ar : Option Addr) (m cr : Nat) (cs : List Value), SJ w W1 g1 g2 W0.heap.size (W0.heap.size + 1) (W0.heap.size + 2) R acc b W →
      Boxed W g1 37 (.slice Ar m cr) → m ≤ b → LRow (W0.heap.size + 2) W Ar m cr acc cs → fl = 6 + x.length → fl ≤ cf → cf ≤ 9223372036854775807 → BCells W W.heap.size (some ⟨g, 6, none⟩) x → W0.heap.size + 2 ≤ g → g < W.heap.size → g ∉ blkOf Ar → 0 < x.length → b + fl ≤ 16777216 →
      body.wpIn (Fence.wide.inRound (W0.heap.size + 1)) 3 Tryd.prog (fun e _ W' => e = .normal ∧ SJ w W1 g1 g2 W0.heap.size (W0.heap.size + 1) (W0.heap.size + 2) R (acc ++ [x]) (b + fl) W' ∧ Below w.heap.size W W') (a₁ (.slice (some ⟨g, 0, none⟩) fl cf)) W)
    (hdone : ∀ (W1 : World) (R : Loop) (acc : List (List UInt8)) (b : Nat) (W : World), Fr.scan l = (acc, b) → SJ w W1 g1 g2 W0.heap.size (W0.heap.size + 1) (W0.heap.size + 2) R acc b W → Q .normal { a with defers := { target := .collected W0.heap.size, args := #[] } :: a.defers } W) :
    (Code.rangeFunc (.tmp 8) #[9] asg body).wpIn Fence.wide 5 Tryd.prog Q a W0 := by
  refine wpIn_rangeFunc ?_
  intro fn _
  obtain ⟨R, hR⟩ : ∃ R : Loop, R = { state := .ready, pending := none, fn := fn, tmps := a.tmps, params := #[9], assign := asg, body := body, defers := W0.heap.size } := ⟨_, rfl⟩
  have hRs : R.state = .ready := by rw [hR]
  have hRp : R.params = #[9] := by rw [hR]
  have hRt : R.tmps = a.tmps := by rw [hR]
  have hRa : R.assign = asg := by rw [hR]
  have hRb : R.body = body := by rw [hR]
  have hRn : R.pending = none := by rw [hR]
  obtain ⟨D, hD⟩ : ∃ D, D = W0.heap.size := ⟨_, rfl⟩
  obtain ⟨W1, hW1⟩ : ∃ W1, W1 = (W0.alloc (.deferred (some []))).alloc (.loop R) := ⟨_, rfl⟩
  have hlt1 : g1 < D := by rw [hD]; exact h1.lt
  have hlt2 : g2 < D := by rw [hD]; exact h2.lt
  have hlt3 : g3 < D := by rw [hD]; exact h3.lt
  have hB1 : Below W0.heap.size W0 W1 := by rw [hW1]; exact ((Below.refl _ W0).alloc (Nat.le_refl _) _).alloc (by simp) _
  have hz1 : W1.heap.size = D + 2 := by rw [hW1, hD]; simp
  have hdf : W1.heap[D]? = some (.deferred (some [])) := by rw [hW1, hD]; exact (Below.heap_alloc _ _ _ (by simp)).trans (World.alloc_heap_new W0 _)
  have hlp : W1.heap[D + 1]? = some (.loop R) := by rw [hW1, hD]; have := World.alloc_heap_new (W0.alloc (.deferred (some []))) (.loop R); rwa [World.size_alloc] at this
  have hwW : Below w.heap.size w W1 := hbW.trans (hB1.mono hbW.size)
  have hJ0 : SJ w W1 g1 g2 D (D + 1) (D + 2) R [] 0 W1 := ⟨hwW, Below.refl _ _, by omega, ⟨none, 0, 0, [], block_keep hB1 h1, Nat.le_refl _, LRow.nil _ _⟩, block_keep hB1 h2, hdf, hlp⟩
  rw [← hD] at hbody hdone
  refine ⟨D + 1, [{ target := .collected D, args := #[] }], W1, { target := .fn (.func 118) #[.pointer (some ⟨g3, 0, none⟩)], args := #[.func (.yield (D + 1)) #[] #[]] }, W1, 118, #[.func (.yield (D + 1)) #[] #[], .pointer (some ⟨g3, 0, none⟩)], W1, ?_, ?_, fun _ _ => trivial, ?_, fun h => (by cases h), ?_⟩
  · rw [hW1, hR, hD]; exact run_enterLoop_outer _ _ _ _ _
  · simp only [resolve, ha]
    simp [go_sem]
  · have he := enters_of (P := Tryd.prog) Tryd.func118 (by kernel_rfl) rfl
    simp [invoke, go_sem]
  · refine (iter_in 4 (D + 1) g3 w.heap.size A c n l W1 (fun acc b W => SJ w W1 g1 g2 D (D + 1) (D + 2) R acc b W) (by omega) (fun acc b W W' h hb' => h.next hb') (fun acc b W h => hH.next h.b0) (fun acc b W h => h.b1) hwW.size ?_
      ((hB1.cell (p := ⟨g3, 0, none⟩) h3.lt).trans h3.cell) hn (hb.below hwW) hc hcm hl hJ0).mono ?_
    · intro acc b x g cf fl Wa Wb hs hab hfl hrow hok hle
      have hs2 := hs.next hab
      obtain ⟨A1, m1, c1, cs1, k1, k2, k3⟩ := hs.recs
      have hy := run_yield (P := Tryd.prog) (args := #[.slice (some ⟨g, 0, none⟩) fl cf]) hs2.lp (by rw [hRp]; rfl)
      rw [hRp, hRt, hRa, hRb] at hy
      have hfold : (#[(9 : Tmp)].zip #[Value.slice (some ⟨g, 0, none⟩) fl cf]).foldl (fun t (p, v) => t.setIfInBounds p v) a.tmps = a.tmps.setIfInBounds 9 (.slice (some ⟨g, 0, none⟩) fl cf) := by simp
      refine ⟨_, _, _, _, hy, roundIn_of_wpIn trivial ?_⟩
      rw [hfold]
      refine hassign (D + 1) _ Wb _ ?_
      have hbz := hs2.busy (R' := { R with state := .busy }) hlt1 hlt2 hg1 (by omega)
      refine ⟨_, run_beginRound hs2.lp hRs, ?_⟩
      have hx := (Fr.ok_iff x).1 hok
      have hgr := World.ownsRow.lt hrow g rfl
      have hfd : (Fr.frame x).drop 6 = x := by
        have := Fr.frame_drop x []
        rwa [List.append_nil, List.append_nil] at this
      have hxc : BCells Wb Wb.heap.size (some ⟨g, 6, none⟩) x := by
        have h' := sub_cells (a := 6) (m := x.length) (row_cells hrow)
        rw [hfd, List.take_of_length_le (Nat.le_refl _), Nat.zero_add] at h'
        exact h'
      have hcap := row_cap hrow
      have hne : g ≠ D + 1 := by have := hs.sz; omega
      have hzz : (Wb.putObj (D + 1) (.loop { R with state := .busy })).heap.size = Wb.heap.size := World.putObj_size
      refine wpIn_mono (hbody W1 _ acc b x g cf fl _ A1 m1 c1 cs1 hbz.1 ?_ k2 ?_ hfl hcap.1 hcap.2 ?_ ?_ ?_ ?_ hx.1 (by omega)) ?_
      · exact (World.putObj_heap_other (by omega)).trans (block_keep hab k1)
      · exact (k3.next hab).far (fun k hk => World.putObj_heap_other (by omega)) (by rw [hzz]; exact Nat.le_refl _)
      · exact cells_block hxc (fun k hk => World.putObj_heap_other (by simp [blkOf] at hk; omega)) (by rw [hzz]; exact Nat.le_refl _)
      · have := hs.sz; omega
      · rw [hzz]; exact hgr.2
      · intro hmem; have := k3.blk g hmem; omega
      · rintro e a3 W3 ⟨rfl, hs3, hb3⟩
        have hen := run_endRound (P := Tryd.prog) none hs3.lp
        have hRR : ({ ({ R with state := .busy } : Loop) with state := if (none : Option Code).isNone then .ready else .done, pending := none } : Loop) = R := by rw [hR]; rfl
        rw [hRR] at hen
        have hb4 := hs3.busy (R' := R) hlt1 hlt2 hg1 (by omega)
        exact ⟨_, _, hen, rfl, hb4.1, (hbz.2.trans hb3).trans hb4.2⟩
    · rintro e W2 ⟨⟨v, rfl⟩, acc, b, hsc, hs⟩
      have hen := run_endLoop (P := Tryd.prog) hs.lp (by rw [hRs]; simp)
      rw [hRn] at hen
      exact ⟨none, _, hen, hdone W1 _ acc b _ hsc (hs.busy hlt1 hlt2 hg1 (by omega)).1⟩
end Go.Proofs.YtkmljbbnpjlehaaDoor
namespace Go.Proofs.YtkmljbbnpjlehaaDoor
set_option maxRecDepth 100000
open Go.RowKit
attribute [local go_sem] Oper.semAt_some

theorem LRow.cap {base : Nat} {w : World} {A : Option Addr} {n c : Nat} {l : List (List UInt8)} {cs : List Value} (h : LRow base w A n c l cs) : n ≤ c ∧ c ≤ 9223372036854775807 := by
  rcases h.row.2 with ⟨h1, h2⟩ | ⟨g, cap, cur, h1, _, _, h2, h3, _⟩
  · injection h1 with _ e1 e2
    subst e2
    omega
  · injection h1 with _ e1 e2
    subst e2
    unfold maxLen at h3
    omega

/-- What Scan tells, and that the list is the call's own. -/
def ToldOwn (l : List UInt8) (w : World) (e : Ending) (w' : World) : Prop :=
  ∃ A c m cs, e = .returned (.tuple #[.slice A m c, .int .i64 ((Fr.scan l).2 : Int)]) ∧ LRow w.heap.size w' A m c (Fr.scan l).1 cs ∧ Below w.heap.size w w'
theorem ToldOwn.told {l : List UInt8} {w : World} {e : Ending} {w' : World} (h : ToldOwn l w e w') : ToldPost l w e w' := by
  obtain ⟨A, c, m, cs, he, hl, hb⟩ := h
  exact ⟨A, c, m, he, hl.len, hl.cap.1, hl.cap.2, hl.lc, hb⟩
theorem LRow.base {base base' : Nat} {w : World} {A : Option Addr} {n c : Nat} {l : List (List UInt8)} {cs : List Value} (h : LRow base w A n c l cs) (hb : base' ≤ base) : LRow base' w A n c l cs := by
  refine ⟨h.len, ⟨h.row.1, ?_⟩, fun k hk => ?_⟩
  · rcases h.row.2 with h1 | ⟨g, cap, cur, hv, hbs, hr⟩
    · exact .inl h1
    · exact .inr ⟨g, cap, cur, hv, Nat.le_trans hb hbs, hr⟩
  · obtain ⟨Ak, ck, e1, e2, e3⟩ := h.el k hk
    exact ⟨Ak, ck, e1, e2, fun b hb' => ⟨Nat.le_trans hb (e3 b hb').1, (e3 b hb').2⟩⟩

set_option maxHeartbeats 4000000 in
theorem scan_own (A : Option Addr) (c n : Nat) (l : List UInt8) (w : World) (hH : Hs w) (hn : l.length = n) (hb : BCells w w.heap.size A l) (hc : n ≤ c) (hcm : c ≤ 9223372036854775807) (hl : n ≤ 16777216) :
    Calls Tryd.prog 61 #[.slice A n c] w (ToldOwn l w) := by
  have HN := Lib.hid hn
  have HB := Lib.hid hb
  clear hn hb
  refine (callsIn_wide (n := 5)).1 ?_
  refine callsIn_of_wp_marks Tryd.func61 rfl trivial ?_ rfl
  simp only [Tryd.ntmps61, List.size_toArray, List.length_cons, List.length_nil, Nat.reduceAdd, Nat.reduceSub, Array.replicate_succ, Array.replicate_zero, List.push_toArray, List.append_toArray, List.nil_append, List.cons_append]
  gi_wp2_with (refine ⟨trivial, ?_⟩; gi_at_call 94; refine (callsIn_wide.2 (frames_any A c n _)).mono ?_; rintro _ w2 ⟨rfl, rfl⟩)
  have hw0 := heap_alloc_new w (.cells #[.slice none 0 0] 37)
  obtain ⟨g1, hg1⟩ : ∃ g1, g1 = w.heap.size := ⟨_, rfl⟩
  obtain ⟨wa, hwa⟩ : ∃ wa, wa = w.alloc (.cells #[.slice none 0 0] 37) := ⟨_, rfl⟩
  have ba : Boxed wa g1 37 (.slice none 0 0) := by rw [hwa, hg1]; exact heap_alloc_new w _
  have hba : Below w.heap.size w wa := by rw [hwa]; exact (Below.refl _ _).alloc (Nat.le_refl _) _
  have hza : wa.heap.size = g1 + 1 := by rw [hwa, hg1]; simp
  obtain ⟨g2, hg2⟩ : ∃ g2, g2 = g1 + 1 := ⟨_, rfl⟩
  obtain ⟨wb, hwb⟩ : ∃ wb, wb = wa.alloc (.cells #[.int .i64 0] 3) := ⟨_, rfl⟩
  have bb1 : Boxed wb g1 37 (.slice none 0 0) := by rw [hwb]; exact ba.alloc _
  have bb2 : Boxed wb g2 3 (.int .i64 0) := by rw [hwb, hg2, ← hza]; exact heap_alloc_new wa _
  have hbb : Below wa.heap.size wa wb := by rw [hwb]; exact (Below.refl _ _).alloc (Nat.le_refl _) _
  have hzb : wb.heap.size = g2 + 1 := by rw [hwb, hg2]; simp [hza]
  obtain ⟨g3, hg3⟩ : ∃ g3, g3 = g2 + 1 := ⟨_, rfl⟩
  obtain ⟨W0, hW0⟩ : ∃ W0, W0 = wb.alloc (.cells #[.slice A n c] 36) := ⟨_, rfl⟩
  have bc1 : Boxed W0 g1 37 (.slice none 0 0) := by rw [hW0]; exact bb1.alloc _
  have bc2 : Boxed W0 g2 3 (.int .i64 0) := by rw [hW0]; exact bb2.alloc _
  have bc3 : Boxed W0 g3 36 (.slice A n c) := by rw [hW0, hg3, ← hzb]; exact heap_alloc_new wb _
  have hbc : Below wb.heap.size wb W0 := by rw [hW0]; exact (Below.refl _ _).alloc (Nat.le_refl _) _
  have hzc : W0.heap.size = g3 + 1 := by rw [hW0, hg3]; simp [hzb]
  have hbW : Below w.heap.size w W0 := (hba.trans (hbb.mono (by omega))).trans (hbc.mono (by omega))
  rw [← hwa, ← hwb, ← hW0, ← hg1, ← hg2, ← hg3]
  clear hw0 hwa hwb hW0 ba bb1 bb2 hba hbb hbc
  have hge : w.heap.size ≤ g1 := by omega
  have HG := Lib.hid (And.intro hg1 (And.intro hg2 hg3))
  have HZ := Lib.hid hzc
  clear hg1 hg2 hg3 hza hzb hzc
  refine scan_loop (A := A) (c := c) (n := n) (l := l) (w := w) (g1 := g1) (g2 := g2) (g3 := g3) (fun v => { tmps := #[.slice A n c, undef, .slice none 0 0, .int .i64 0, .pointer (some ⟨g1, 0, none⟩), .pointer (some ⟨g2, 0, none⟩), v, .slice A n c, .func (.func 118) #[] #[.pointer (some ⟨g3, 0, none⟩)], v, undef, undef, undef, undef, undef, undef, undef, undef, undef, undef, undef], defers := [] })
    rfl bc1 bc2 bc3 hge hbW hH HB.out HN.out hc hcm hl ?assign ?body ?done
  case assign =>
    intro lp v W K hK
    gi_wp2
    exact hK
  case body =>
    intro W1 R acc b x g cf fl W Ar m cr cs hs hbx hmb hlr hfl hfc hcm2 hxc hg hgs hgn hx0 hbl
    have hc1 := hbx.cell
    have k1 : (6 : Int) ≤ (fl : Int) := by omega
    have k2 : (fl : Int) ≤ (cf : Int) := by omega
    have k3 : ¬ cf = 6 := by omega
    have k4 : ¬ cf ≤ 6 := by omega
    have k5 : (cf == 6) = false := by simp; omega
    obtain ⟨xl, hxl⟩ : ∃ xl, fl - 6 = xl := ⟨_, rfl⟩
    obtain ⟨c6, hc6⟩ : ∃ c6, cf - 6 = c6 := ⟨_, rfl⟩
    have k6 : ¬ c6 = 0 := by omega
    obtain ⟨e, he⟩ : ∃ e, e = b + fl := ⟨_, rfl⟩
    have hwa : IntKind.i64.wrap ((b : Int) + (fl : Int)) = (e : Int) := by rw [IntWalk.i64_in _ (by omega)]; omega
    have hd : Below W.heap.size W (W.alloc (.cells #[.slice (some ⟨g, 6, none⟩) xl c6] 36)).drew := ((Below.refl _ _).alloc (Nat.le_refl _) _).drew
    have hbl9 : (W.alloc (.cells #[.slice (some ⟨g, 6, none⟩) xl c6] 36)).drew.heap[W.heap.size]? = some (.cells #[.slice (some ⟨g, 6, none⟩) xl c6] 36 (0, 0)) := heap_alloc_new W _
    have hbz : W0.heap.size + 2 ≤ (W.alloc (.cells #[.slice (some ⟨g, 6, none⟩) xl c6] 36)).drew.heap.size := by have := hd.size; omega
    have hrw := (hlr.next hd).row
    have HPU := Lib.hid (fun w9 gg cap h1 h2 h3 => SJ.push (w9 := w9) (gg := gg) (cap := cap) (c6 := c6) hs (by have := HZ.out; have := HG.out; omega) (by have := HZ.out; have := HG.out; omega) hge (by have := HG.out; omega) (by have := HG.out; omega) (by omega) hbx hlr (by omega : xl = x.length) hxc hg hgs hgn hd h1 h2 h3)
    have HX := Lib.hid (And.intro hfl hxl)
    have HHS := Lib.hid hs
    have hme : m + 1 ≤ e := by omega
    have hm16 : m ≤ 16777216 := by omega
    rw [← he]
    have hc1' : (W.alloc (.cells #[.slice (some ⟨g, 6, none⟩) xl c6] 36)).cell? ⟨g1, 0, none⟩ = some (.slice Ar m cr) := (hbx.alloc _).cell
    clear hfl hs hd he
    gi_wp2
    refine wpIn_region_any (by kernel_rfl) ?_
    change wpAnyIn _ _ _ _ _ _ _ _ _ (World.drew _)
    refine wpAnyIn_ready (rs := [0, 1]) (by kernel_rfl) (by simp) ?_
    refine AllReadyIn.cons rfl (fun K hK => ?_) (AllReadyIn.cons rfl (fun K hK => ?_) AllReadyIn.nil)
    · go_simp
      refine hK _ _ ?_
      clear hK K
      refine wpAnyIn_ready (rs := [1]) (by kernel_rfl) (by simp) ?_
      refine AllReadyIn.cons rfl (fun K hK => ?_) AllReadyIn.nil
      go_simp
      refine hK _ _ ?_
      clear hK K
      refine wpAnyIn_ready (rs := [2]) (by kernel_rfl) (by simp) ?_
      refine AllReadyIn.cons rfl (fun K hK => ?_) AllReadyIn.nil
      go_simp
      refine hK _ _ ?_
      clear hK K
      refine wpAnyIn_ready (rs := [3]) (by kernel_rfl) (by simp) ?_
      refine AllReadyIn.cons rfl (fun K hK => ?_) AllReadyIn.nil
      go_simp
      refine hK _ _ ?_
      clear hK K
      refine wpAnyIn_ready (rs := [4]) (by kernel_rfl) (by simp) ?_
      refine AllReadyIn.cons rfl (fun K hK => ?_) AllReadyIn.nil
      refine stepIn_push (B := W.heap.size) (base := W0.heap.size + 2) (n := m) _ (.tmp 10) (.tmp 13) (.slice Ar m cr) (.slice (some ⟨g, 6, none⟩) xl c6) cs rfl rfl rfl rfl hrw hbl9 rfl (by omega) hbz ?_
      intro gg cp w9 hown9 hgrow9 hat9
      refine hK _ _ ?_
      clear hK K
      obtain ⟨hb9, hn10, hend⟩ := HPU.out w9 gg cp hown9 hgrow9 hat9
      have hc9 := hb9.cell
      have hf9 := hb9.frozen
      have hc10 := hn10.cell
      have hf10 := hn10.frozen
      have HEND := Lib.hid (hend e (by omega))
      clear hend hown9 hgrow9 hat9 hb9 hn10
      refine wpAnyIn_ready (rs := [5]) (by kernel_rfl) (by simp) ?_
      refine AllReadyIn.cons rfl (fun K hK => ?_) AllReadyIn.nil
      go_simp
      refine hK _ _ ?_
      clear hK K
      refine wpAnyIn_done (by kernel_rfl) ?_ _
      gi_wp2
      exact HEND.out
    · go_simp
      refine hK _ _ ?_
      clear hK K
      refine wpAnyIn_ready (rs := [0, 2]) (by kernel_rfl) (by simp) ?_
      refine AllReadyIn.cons rfl (fun K hK => ?_) (AllReadyIn.cons rfl (fun K hK => ?_) AllReadyIn.nil)
      · go_simp
        refine hK _ _ ?_
        clear hK K
        refine wpAnyIn_ready (rs := [2]) (by kernel_rfl) (by simp) ?_
        refine AllReadyIn.cons rfl (fun K hK => ?_) AllReadyIn.nil
        go_simp
        refine hK _ _ ?_
        clear hK K
        refine wpAnyIn_ready (rs := [3]) (by kernel_rfl) (by simp) ?_
        refine AllReadyIn.cons rfl (fun K hK => ?_) AllReadyIn.nil
        go_simp
        refine hK _ _ ?_
        clear hK K
        refine wpAnyIn_ready (rs := [4]) (by kernel_rfl) (by simp) ?_
        refine AllReadyIn.cons rfl (fun K hK => ?_) AllReadyIn.nil
        refine stepIn_push (B := W.heap.size) (base := W0.heap.size + 2) (n := m) _ (.tmp 10) (.tmp 13) (.slice Ar m cr) (.slice (some ⟨g, 6, none⟩) xl c6) cs rfl rfl rfl rfl hrw hbl9 rfl (by omega) hbz ?_
        intro gg cp w9 hown9 hgrow9 hat9
        refine hK _ _ ?_
        clear hK K
        obtain ⟨hb9, hn10, hend⟩ := HPU.out w9 gg cp hown9 hgrow9 hat9
        have hc9 := hb9.cell
        have hf9 := hb9.frozen
        have hc10 := hn10.cell
        have hf10 := hn10.frozen
        have HEND := Lib.hid (hend e (by omega))
        clear hend hown9 hgrow9 hat9 hb9 hn10
        refine wpAnyIn_ready (rs := [5]) (by kernel_rfl) (by simp) ?_
        refine AllReadyIn.cons rfl (fun K hK => ?_) AllReadyIn.nil
        go_simp
        refine hK _ _ ?_
        clear hK K
        refine wpAnyIn_done (by kernel_rfl) ?_ _
        gi_wp2
        exact HEND.out
      · go_simp
        refine hK _ _ ?_
        clear hK K
        refine wpAnyIn_ready (rs := [0, 3]) (by kernel_rfl) (by simp) ?_
        refine AllReadyIn.cons rfl (fun K hK => ?_) (AllReadyIn.cons rfl (fun K hK => ?_) AllReadyIn.nil)
        · go_simp
          refine hK _ _ ?_
          clear hK K
          refine wpAnyIn_ready (rs := [3]) (by kernel_rfl) (by simp) ?_
          refine AllReadyIn.cons rfl (fun K hK => ?_) AllReadyIn.nil
          go_simp
          refine hK _ _ ?_
          clear hK K
          refine wpAnyIn_ready (rs := [4]) (by kernel_rfl) (by simp) ?_
          refine AllReadyIn.cons rfl (fun K hK => ?_) AllReadyIn.nil
          refine stepIn_push (B := W.heap.size) (base := W0.heap.size + 2) (n := m) _ (.tmp 10) (.tmp 13) (.slice Ar m cr) (.slice (some ⟨g, 6, none⟩) xl c6) cs rfl rfl rfl rfl hrw hbl9 rfl (by omega) hbz ?_
          intro gg cp w9 hown9 hgrow9 hat9
          refine hK _ _ ?_
          clear hK K
          obtain ⟨hb9, hn10, hend⟩ := HPU.out w9 gg cp hown9 hgrow9 hat9
          have hc9 := hb9.cell
          have hf9 := hb9.frozen
          have hc10 := hn10.cell
          have hf10 := hn10.frozen
          have HEND := Lib.hid (hend e (by omega))
          clear hend hown9 hgrow9 hat9 hb9 hn10
          refine wpAnyIn_ready (rs := [5]) (by kernel_rfl) (by simp) ?_
          refine AllReadyIn.cons rfl (fun K hK => ?_) AllReadyIn.nil
          go_simp
          refine hK _ _ ?_
          clear hK K
          refine wpAnyIn_done (by kernel_rfl) ?_ _
          gi_wp2
          exact HEND.out
        · go_simp
          refine hK _ _ ?_
          clear hK K
          refine wpAnyIn_ready (rs := [0]) (by kernel_rfl) (by simp) ?_
          refine AllReadyIn.cons rfl (fun K hK => ?_) AllReadyIn.nil
          go_simp
          refine hK _ _ ?_
          clear hK K
          refine wpAnyIn_ready (rs := [4]) (by kernel_rfl) (by simp) ?_
          refine AllReadyIn.cons rfl (fun K hK => ?_) AllReadyIn.nil
          refine stepIn_push (B := W.heap.size) (base := W0.heap.size + 2) (n := m) _ (.tmp 10) (.tmp 13) (.slice Ar m cr) (.slice (some ⟨g, 6, none⟩) xl c6) cs rfl rfl rfl rfl hrw hbl9 rfl (by omega) hbz ?_
          intro gg cp w9 hown9 hgrow9 hat9
          refine hK _ _ ?_
          clear hK K
          obtain ⟨hb9, hn10, hend⟩ := HPU.out w9 gg cp hown9 hgrow9 hat9
          have hc9 := hb9.cell
          have hf9 := hb9.frozen
          have hc10 := hn10.cell
          have hf10 := hn10.frozen
          have HEND := Lib.hid (hend e (by omega))
          clear hend hown9 hgrow9 hat9 hb9 hn10
          refine wpAnyIn_ready (rs := [5]) (by kernel_rfl) (by simp) ?_
          refine AllReadyIn.cons rfl (fun K hK => ?_) AllReadyIn.nil
          go_simp
          refine hK _ _ ?_
          clear hK K
          refine wpAnyIn_done (by kernel_rfl) ?_ _
          gi_wp2
          exact HEND.out
  case done =>
    intro W1 R acc b W hsc hs
    obtain ⟨Ar, m, cr, cs, hbx, hmb, hlr⟩ := hs.recs
    have hc1 := hbx.cell
    have hc2 := hs.num.cell
    gi_wp2
    gi_region
    have HS := Lib.hid hsc
    have hK := hs.df
    gi_wp2
    refine ⟨by simp, .inl ⟨_, _, rfl, run_takeDeferred (w := W.drew) hK, ?_⟩⟩
    have hlt : W0.heap.size < W.drew.heap.size := (Array.getElem?_eq_some_iff.1 hK).1
    have hb2 : Below w.heap.size W.drew (W.drew.putObj W0.heap.size (.deferred none)) := (Below.refl _ _).grown (grownBy_putObj' W.drew _ _) (by have := hs.b0.size; exact this) (fun k e => by cases e; exact hbW.size)
    have hlr2 : LRow (W0.heap.size + 2) (W.drew.putObj W0.heap.size (.deferred none)) Ar m cr acc cs := (hlr.next (Below.refl _ _).drew).far (fun k hk => World.putObj_heap_other (by omega)) (by rw [World.putObj_size]; exact Nat.le_refl _)
    refine ⟨_, results_tmp2 rfl _ _ _, Ar, cr, m, cs, ?_, ?_, hs.b0.drew.trans hb2⟩
    · rw [HS.out]; rfl
    · rw [HS.out]; exact hlr2.base (by have := hbW.size; omega)
theorem scan_any (A : Option Addr) (c n : Nat) (l : List UInt8) (w : World) (hH : Hs w) (hn : l.length = n) (hb : BCells w w.heap.size A l) (hc : n ≤ c) (hcm : c ≤ 9223372036854775807) (hl : n ≤ 16777216) :
    Calls Tryd.prog 61 #[.slice A n c] w (ToldPost l w) := (scan_own A c n l w hH hn hb hc hcm hl).mono (fun _ _ h => h.told)
end Go.Proofs.YtkmljbbnpjlehaaDoor
