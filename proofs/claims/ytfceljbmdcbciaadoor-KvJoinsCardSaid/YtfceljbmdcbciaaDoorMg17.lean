/- What a round of the program's own Scan keeps of its state, step by step; an append at a step of a region that draws, within a round. No condition. The loop of the program's own Scan over its iterator, for whatever code keeps what a round must. -/
import Derived.Test.YtfceljbmdcbciaaDoorMg16
import Derived.RangeFuncBox
import Derived.RangeFuncFrom
namespace Go.Proofs.YtfceljbmdcbciaaDoor
set_option maxRecDepth 8000
open Go.RowKit

theorem LRow.far {base : Nat} {w w' : World} {A : Option Addr} {n c : Nat} {l : List (List UInt8)} {cs : List Value} (h : LRow base w A n c l cs) (hf : ∀ b, base ≤ b → w'.heap[b]? = w.heap[b]?) (hz : w.heap.size ≤ w'.heap.size) : LRow base w' A n c l cs := by
  refine ⟨h.len, ⟨h.row.1, ?_⟩, fun k hk => ?_⟩
  · rcases h.row.2 with h1 | ⟨g, cap, cur, hv, hb, hg, hr⟩
    · exact .inl h1
    · exact .inr ⟨g, cap, cur, hv, hb, by rw [hf g hb]; exact hg, hr⟩
  · obtain ⟨Ak, ck, e1, e2, e3⟩ := h.el k hk
    exact ⟨Ak, ck, e1, cells_block e2 (fun b hb => hf b (e3 b hb).1) hz, fun b hb => ⟨(e3 b hb).1, Nat.lt_of_lt_of_le (e3 b hb).2.1 hz, (e3 b hb).2.2⟩⟩
theorem LRow.blk {base : Nat} {w : World} {A : Option Addr} {n c : Nat} {l : List (List UInt8)} {cs : List Value} (h : LRow base w A n c l cs) : ∀ b ∈ blkOf A, base ≤ b ∧ b < w.heap.size := fun b hb => by
  cases A with
  | none => simp [blkOf] at hb
  | some ad =>
    simp only [blkOf, List.mem_singleton] at hb
    have := World.ownsRow.lt h.row ad.block rfl
    rw [hb]
    exact this
theorem LRow.own {base : Nat} {w : World} {A : Option Addr} {n c : Nat} {l : List (List UInt8)} {cs : List Value} (h : LRow base w A n c l cs) : ∀ k, (Value.slice A n c).ownBlock = some k → base ≤ k ∧ k < w.heap.size := fun k hk => World.ownsRow.lt h.row k hk

/-- Scan's own state between two rounds: its two variables, what it has found, the loop's record, the block for deferred calls. -/
structure SJ (w0 W1 : World) (g1 g2 D lp base : Nat) (R : Loop) (acc : List (List UInt8)) (a : Nat) (W : World) : Prop where
  b0 : Below w0.heap.size w0 W
  b1 : Below w0.heap.size W1 W
  sz : base ≤ W.heap.size
  recs : ∃ A m c cs, Boxed W g1 37 (.slice A m c) ∧ m ≤ a ∧ LRow base W A m c acc cs
  num : Boxed W g2 3 (.int .i64 (a : Int))
  df : W.heap[D]? = some (.deferred (some []))
  lp : W.heap[lp]? = some (.loop R)
theorem block_keep {W W' : World} (hb : Below W.heap.size W W') {g : Nat} {o : Obj} (h : W.heap[g]? = some o) : W'.heap[g]? = some o := (hb.block g (Array.getElem?_eq_some_iff.1 h).1).trans h
theorem SJ.next {w0 W1 : World} {g1 g2 D lp base : Nat} {R : Loop} {acc : List (List UInt8)} {a : Nat} {W W' : World} (h : SJ w0 W1 g1 g2 D lp base R acc a W) (hb : Below W.heap.size W W') : SJ w0 W1 g1 g2 D lp base R acc a W' := by
  obtain ⟨A, m, c, cs, h1, h2, h3⟩ := h.recs
  have hs : w0.heap.size ≤ W.heap.size := h.b0.size
  exact ⟨h.b0.trans (hb.mono hs), h.b1.trans (hb.mono hs), Nat.le_trans h.sz hb.size, ⟨A, m, c, cs, block_keep hb h1, h2, h3.next hb⟩, block_keep hb h.num, block_keep hb h.df, block_keep hb h.lp⟩

/-- 'records = append(records, x)' at a step of a region that draws its order, within a round: the element lies in a block of its own, B. -/
theorem stepIn_push {lp k B base n : Nat} (W : World) {ops : Array Oper} {o : Oper} {a : Act} {K : Act → World → Prop} {Q : Exit → Act → World → Prop} {E : Prop} (s x : Operand) (v u : Value) (cs : List Value)
    (ho : o.op = .call { callee := .builtin .append, args := #[s, x], argTypes := #[37, 37] }) (hgd : o.guard = none) (hs : a.eval s = v) (hx : a.eval x = .slice (some ⟨B, 0, none⟩) 1 1)
    (hown : W.ownsRow base 36 1 v n cs) (hB : W.heap[B]? = some (.cells #[u] 36 (0, 0))) (hu : u.oneCell' = true) (hn : n ≤ 16777216) (hb : base ≤ W.heap.size)
    (hK : ∀ g cap W', W'.ownsRow base 36 1 (.slice (some ⟨g, 0, none⟩) (n + 1) cap) (n + 1) (cs ++ [u]) → W.grownBy W' v.ownBlock → (v.ownBlock = some g ∨ g = W.heap.size) → K (a.put o.dst (.slice (some ⟨g, 0, none⟩) (n + 1) cap)) W') :
    if Region.wanted o (yielded ops a.tmps) = true then Oper.wpIn (Fence.wide.inRound lp) k Tryd.prog o a W K Q else E := by
  obtain ⟨i0, hi, hz0, hz1, hz2⟩ := info_parts Tryd.infoBytes
  obtain ⟨g, cap, W', hr, h2, h3, h4, _⟩ := run_append_lies (P := Tryd.prog) W 37 o.type base 36 i0 _ 1 24 Tryd.underlying37 hi hz0 hz1 hz2 rfl (by omega) v n cs hown ⟨B, 0, none⟩ 1 1 [u] rfl (World.news_of_block (cs := #[u]) hB) (by simpa using hu) (by omega) (by unfold maxLen; omega) (by omega) hb W.heap.size rfl
  rw [if_pos (by simp [Region.wanted, hgd])]
  refine ⟨fun _ _ => trivial, ?_⟩
  rw [Oper.semAt_plain _ _ _ (by rw [ho]; intro c hc; cases hc)]
  simp [execOp, ho, resolve, invoke, builtin, hs, hx, hr, Result.andThen]
  exact hK g cap W' h2 h3 h4
end Go.Proofs.YtfceljbmdcbciaaDoor
namespace Go.Proofs.YtfceljbmdcbciaaDoor
set_option maxRecDepth 100000
open Go.RowKit

theorem SJ.busy {w W1 : World} {g1 g2 D base : Nat} {R R' : Loop} {acc : List (List UInt8)} {b : Nat} {W : World} (h : SJ w W1 g1 g2 D (D + 1) base R acc b W) (hg1 : g1 < D) (hg2 : g2 < D) (hw : w.heap.size ≤ g1) (hb : D + 1 < base) : SJ w W1 g1 g2 D (D + 1) base R' acc b (W.putObj (D + 1) (.loop R')) ∧ Below w.heap.size W (W.putObj (D + 1) (.loop R')) := by
  obtain ⟨A, m, c, cs, h1, h2, h3⟩ := h.recs
  have hlt : D + 1 < W.heap.size := (Array.getElem?_eq_some_iff.1 h.lp).1
  have hbe : Below w.heap.size W (W.putObj (D + 1) (.loop R')) := (Below.refl _ _).grown (grownBy_putObj' W _ _) (by have := h.b0.size; omega) (fun k e => by cases e; omega)
  have hfar : ∀ k, k ≠ D + 1 → (W.putObj (D + 1) (.loop R')).heap[k]? = W.heap[k]? := fun k hk => World.putObj_heap_other hk
  refine ⟨⟨h.b0.trans hbe, h.b1.trans hbe, by rw [World.putObj_size]; exact h.sz, ⟨A, m, c, cs, (hfar g1 (by omega)).trans h1, h2, h3.far (fun k hk => hfar k (by omega)) (by rw [World.putObj_size]; exact Nat.le_refl _)⟩, (hfar g2 (by omega)).trans h.num, (hfar D (by omega)).trans h.df, World.putObj_heap_same hlt⟩, hbe⟩

/-- A round's append, and its two stores. -/
theorem SJ.push {w W1 W Wd w9 : World} {g1 g2 D base b m cr g xl c6 gg cap : Nat} {R : Loop} {acc : List (List UInt8)} {x : List UInt8} {Ar : Option Addr} {cs : List Value}
    (h : SJ w W1 g1 g2 D (D + 1) base R acc b W) (hg1 : g1 < D) (hg2 : g2 < D) (hw1 : w.heap.size ≤ g1) (hw2 : w.heap.size ≤ g2) (h12 : g1 ≠ g2) (hb : D + 1 < base)
    (hbx : Boxed W g1 37 (.slice Ar m cr)) (hlr : LRow base W Ar m cr acc cs) (hxl : xl = x.length) (hxc : BCells W W.heap.size (some ⟨g, 6, none⟩) x) (hg : base ≤ g) (hgs : g < W.heap.size) (hgn : g ∉ blkOf Ar)
    (hd : Below W.heap.size W Wd) (hrow : w9.ownsRow base 36 1 (.slice (some ⟨gg, 0, none⟩) (m + 1) cap) (m + 1) (cs ++ [.slice (some ⟨g, 6, none⟩) xl c6])) (hgrow : Wd.grownBy w9 (Value.slice Ar m cr).ownBlock) (hat : (Value.slice Ar m cr).ownBlock = some gg ∨ gg = Wd.heap.size) :
    Boxed w9 g1 37 (.slice Ar m cr) ∧ Boxed (w9.setCell ⟨g1, 0, none⟩ (.slice (some ⟨gg, 0, none⟩) (m + 1) cap)) g2 3 (.int .i64 (b : Int)) ∧
      ∀ e : Nat, m + 1 ≤ e → SJ w W1 g1 g2 D (D + 1) base R (acc ++ [x]) e ((w9.setCell ⟨g1, 0, none⟩ (.slice (some ⟨gg, 0, none⟩) (m + 1) cap)).setCell ⟨g2, 0, none⟩ (.int .i64 (e : Int))) ∧
        Below w.heap.size W ((w9.setCell ⟨g1, 0, none⟩ (.slice (some ⟨gg, 0, none⟩) (m + 1) cap)).setCell ⟨g2, 0, none⟩ (.int .i64 (e : Int))) := by
  have hlrd := hlr.next hd
  have hsz := h.b0.size
  have hlow := h.sz
  have hown := hlrd.own
  have hds := hd.size
  have hkeep : ∀ k, k < base → w9.heap[k]? = W.heap[k]? := fun k hk => by
    rw [hgrow.block k (by omega) (fun e => by have := hown k e.symm; omega)]
    exact hd.block k (by omega)
  have hb9 : Boxed w9 g1 37 (.slice Ar m cr) := (hkeep g1 (by omega)).trans hbx
  have hn9 : Boxed w9 g2 3 (.int .i64 (b : Int)) := (hkeep g2 (by omega)).trans h.num
  have hl9 : LRow base w9 (some ⟨gg, 0, none⟩) (m + 1) cap (acc ++ [x]) (cs ++ [.slice (some ⟨g, 6, none⟩) xl c6]) :=
    LRow.push hlrd hxl (hxc.next hd) (fun k hk => by
      simp only [blkOf, List.mem_singleton] at hk
      subst hk
      exact ⟨hg, by omega, hgn⟩) hrow hgrow hat
  have hbe9 : Below w.heap.size W w9 := (hd.mono hsz).grown hgrow (by omega) (fun k hk => by have := hown k hk; omega)
  obtain ⟨w10, hw10⟩ : ∃ w10, w10 = w9.setCell ⟨g1, 0, none⟩ (.slice (some ⟨gg, 0, none⟩) (m + 1) cap) := ⟨_, rfl⟩
  have hf10 : ∀ k, k ≠ g1 → w10.heap[k]? = w9.heap[k]? := fun k hk => by rw [hw10]; exact Below.heap_setCell _ _ _ k hk
  have hz10 : w9.heap.size ≤ w10.heap.size := by rw [hw10]; exact (grownBy_setCell' w9 g1 _).size
  have hb10 : Boxed w10 g1 37 (.slice (some ⟨gg, 0, none⟩) (m + 1) cap) := by rw [hw10]; exact hb9.set _
  have hn10 : Boxed w10 g2 3 (.int .i64 (b : Int)) := (hf10 g2 (fun e => h12 e.symm)).trans hn9
  have hbe10 : Below w.heap.size W w10 := by rw [hw10]; exact hbe9.setCell (p := ⟨g1, 0, none⟩) hw1 _
  rw [← hw10]
  refine ⟨hb9, hn10, fun e he => ?_⟩
  obtain ⟨w11, hw11⟩ : ∃ w11, w11 = w10.setCell ⟨g2, 0, none⟩ (.int .i64 (e : Int)) := ⟨_, rfl⟩
  have hf11 : ∀ k, k ≠ g2 → w11.heap[k]? = w10.heap[k]? := fun k hk => by rw [hw11]; exact Below.heap_setCell _ _ _ k hk
  have hz11 : w10.heap.size ≤ w11.heap.size := by rw [hw11]; exact (grownBy_setCell' w10 g2 _).size
  have hbe11 : Below w.heap.size W w11 := by rw [hw11]; exact hbe10.setCell (p := ⟨g2, 0, none⟩) hw2 _
  have hall : ∀ k, k ≠ g1 → k ≠ g2 → w11.heap[k]? = w9.heap[k]? := fun k h1 h2 => (hf11 k h2).trans (hf10 k h1)
  rw [← hw11]
  refine ⟨⟨h.b0.trans hbe11, h.b1.trans hbe11, ?_, ⟨some ⟨gg, 0, none⟩, m + 1, cap, _, (hf11 g1 h12).trans hb10, he, hl9.far (fun k hk => hall k (by omega) (by omega)) (Nat.le_trans hz10 hz11)⟩, by rw [hw11]; exact hn10.set _, ?_, ?_⟩, hbe11⟩
  · have := hgrow.size; omega
  · rw [hall D (by omega) (by omega), hkeep D (by omega)]; exact h.df
  · rw [hall (D + 1) (by omega) (by omega), hkeep (D + 1) (by omega)]; exact h.lp

set_option maxHeartbeats 1000000 in
theorem scan_loop {asg body : Code} {Q : Exit → Act → World → Prop} {a : Act} {w W0 : World} {g1 g2 g3 c n : Nat} {A : Option Addr} {l : List UInt8} (a₁ : Value → Act)
    (ha : a.eval (.tmp 8) = .func (.func 105) #[] #[.pointer (some ⟨g3, 0, none⟩)])
    (h1 : Boxed W0 g1 37 (.slice none 0 0)) (h2 : Boxed W0 g2 3 (.int .i64 0)) (h3 : Boxed W0 g3 36 (.slice A n c)) (hg1 : w.heap.size ≤ g1)
    (hbW : Below w.heap.size w W0) (hH : Hs w) (hb : BCells w w.heap.size A l) (hn : l.length = n) (hc : n ≤ c) (hcm : c ≤ 9223372036854775807) (hl : n ≤ 16777216)
    (hassign : ∀ (lp : Nat) (v : Value) (W : World) (K : Act → World → Prop), K (a₁ v) W → asg.wpIn (Fence.wide.inRound lp) 3 Tryd.prog (Exit.then K fun _ _ _ => False) { tmps := a.tmps.setIfInBounds 9 v, defers := [] } W)
    (hbody : ∀ (W1 : World) (R : Loop) (acc : List (List UInt8)) (b : Nat) (x : List UInt8) (g cf fl : Nat) (W : World) (Ar : Option Addr) (m cr : Nat) (cs : List Value), SJ w W1 g1 g2 W0.heap.size (W0.heap.size + 1) (W0.heap.size + 2) R acc b W →
      Boxed W g1 37 (.slice Ar m cr) → m ≤ b → LRow (W0.heap.size + 2) W Ar m cr acc cs → fl = 6 + x.length → fl ≤ cf → cf ≤ 9223372036854775807 → BCells W W.heap.size (some ⟨g, 6, none⟩) x → W0.heap.size + 2 ≤ g → g < W.heap.size → g ∉ blkOf Ar → 0 < x.length → b + fl ≤ 16777216 →
      body.wpIn (Fence.wide.inRound (W0.heap.size + 1)) 3 Tryd.prog (fun e _ W' => e = .normal ∧ SJ w W1 g1 g2 W0.heap.size (W0.heap.size + 1) (W0.heap.size + 2) R (acc ++ [x]) (b + fl) W' ∧ Below w.heap.size W W') (a₁ (.slice (some ⟨g, 0, none⟩) fl cf)) W)
    (hdone : ∀ (W1 : World) (R : Loop) (acc : List (List UInt8)) (b : Nat) (W : World), Fr.scan l = (acc, b) → SJ w W1 g1 g2 W0.heap.size (W0.heap.size + 1) (W0.heap.size + 2) R acc b W → Q .normal { a with defers := { target := .collected W0.heap.size, args := #[] } :: a.defers } W) :
    (Code.rangeFunc (.tmp 8) #[9] asg body).wpIn Fence.wide 5 Tryd.prog Q a W0 := by
  refine wpIn_rangeFunc ?_
  intro fn _
  obtain ⟨R, hR⟩ : ∃ R : Loop, R = { state := .ready, pending := none, fn := fn, tmps := a.tmps, params := #[9], assign := asg, body := body, defers := W0.heap.size } := ⟨_, rfl⟩
  have hRs : R.state = .ready := by rw [hR]
  have hRp : R.params = #[9] := by rw [hR]
  have hRt : R.tmps = a.tmps := by rw [hR]
  have hRa : R.assign = asg := by rw [hR]
  have hRb : R.body = body := by rw [hR]
  have hRn : R.pending = none := by rw [hR]
  obtain ⟨D, hD⟩ : ∃ D, D = W0.heap.size := ⟨_, rfl⟩
  obtain ⟨W1, hW1⟩ : ∃ W1, W1 = (W0.alloc (.deferred (some []))).alloc (.loop R) := ⟨_, rfl⟩
  have hlt1 : g1 < D := by rw [hD]; exact h1.lt
  have hlt2 : g2 < D := by rw [hD]; exact h2.lt
  have hlt3 : g3 < D := by rw [hD]; exact h3.lt
  have hB1 : Below W0.heap.size W0 W1 := by rw [hW1]; exact ((Below.refl _ W0).alloc (Nat.le_refl _) _).alloc (by simp) _
  have hz1 : W1.heap.size = D + 2 := by rw [hW1, hD]; simp
  have hdf : W1.heap[D]? = some (.deferred (some [])) := by rw [hW1, hD]; exact (Below.heap_alloc _ _ _ (by simp)).trans (World.alloc_heap_new W0 _)
  have hlp : W1.heap[D + 1]? = some (.loop R) := by rw [hW1, hD]; have := World.alloc_heap_new (W0.alloc (.deferred (some []))) (.loop R); rwa [World.size_alloc] at this
  have hwW : Below w.heap.size w W1 := hbW.trans (hB1.mono hbW.size)
  have hJ0 : SJ w W1 g1 g2 D (D + 1) (D + 2) R [] 0 W1 := ⟨hwW, Below.refl _ _, by omega, ⟨none, 0, 0, [], block_keep hB1 h1, Nat.le_refl _, LRow.nil _ _⟩, block_keep hB1 h2, hdf, hlp⟩
  rw [← hD] at hbody hdone
  refine ⟨D + 1, [{ target := .collected D, args := #[] }], W1, { target := .fn (.func 105) #[.pointer (some ⟨g3, 0, none⟩)], args := #[.func (.yield (D + 1)) #[] #[]] }, W1, 105, #[.func (.yield (D + 1)) #[] #[], .pointer (some ⟨g3, 0, none⟩)], W1, ?_, ?_, fun _ _ => trivial, ?_, fun h => (by cases h), ?_⟩
  · rw [hW1, hR, hD]; exact run_enterLoop_outer _ _ _ _ _
  · simp only [resolve, ha]
    simp [go_sem]
  · have he := enters_of (P := Tryd.prog) Tryd.func105 (by kernel_rfl) rfl
    simp [invoke, go_sem]
  · refine (iter_in 4 (D + 1) g3 w.heap.size A c n l W1 (fun acc b W => SJ w W1 g1 g2 D (D + 1) (D + 2) R acc b W) (by omega) (fun acc b W W' h hb' => h.next hb') (fun acc b W h => hH.next h.b0) (fun acc b W h => h.b1) hwW.size ?_
      ((hB1.cell (p := ⟨g3, 0, none⟩) h3.lt).trans h3.cell) hn (hb.below hwW) hc hcm hl hJ0).mono ?_
    · intro acc b x g cf fl Wa Wb hs hab hfl hrow hok hle
      have hs2 := hs.next hab
      obtain ⟨A1, m1, c1, cs1, k1, k2, k3⟩ := hs.recs
      have hy := run_yield (P := Tryd.prog) (args := #[.slice (some ⟨g, 0, none⟩) fl cf]) hs2.lp (by rw [hRp]; rfl)
      rw [hRp, hRt, hRa, hRb] at hy
      have hfold : (#[(9 : Tmp)].zip #[Value.slice (some ⟨g, 0, none⟩) fl cf]).foldl (fun t (p, v) => t.setIfInBounds p v) a.tmps = a.tmps.setIfInBounds 9 (.slice (some ⟨g, 0, none⟩) fl cf) := by simp
      refine ⟨_, _, _, _, hy, roundIn_of_wpIn trivial ?_⟩
      rw [hfold]
      refine hassign (D + 1) _ Wb _ ?_
      have hbz := hs2.busy (R' := { R with state := .busy }) hlt1 hlt2 hg1 (by omega)
      refine ⟨_, run_beginRound hs2.lp hRs, ?_⟩
      have hx := (Fr.ok_iff x).1 hok
      have hgr := World.ownsRow.lt hrow g rfl
      have hfd : (Fr.frame x).drop 6 = x := by
        have := Fr.frame_drop x []
        rwa [List.append_nil, List.append_nil] at this
      have hxc : BCells Wb Wb.heap.size (some ⟨g, 6, none⟩) x := by
        have h' := sub_cells (a := 6) (m := x.length) (row_cells hrow)
        rw [hfd, List.take_of_length_le (Nat.le_refl _), Nat.zero_add] at h'
        exact h'
      have hcap := row_cap hrow
      have hne : g ≠ D + 1 := by have := hs.sz; omega
      have hzz : (Wb.putObj (D + 1) (.loop { R with state := .busy })).heap.size = Wb.heap.size := World.putObj_size
      refine wpIn_mono (hbody W1 _ acc b x g cf fl _ A1 m1 c1 cs1 hbz.1 ?_ k2 ?_ hfl hcap.1 hcap.2 ?_ ?_ ?_ ?_ hx.1 (by omega)) ?_
      · exact (World.putObj_heap_other (by omega)).trans (block_keep hab k1)
      · exact (k3.next hab).far (fun k hk => World.putObj_heap_other (by omega)) (by rw [hzz]; exact Nat.le_refl _)
      · exact cells_block hxc (fun k hk => World.putObj_heap_other (by simp [blkOf] at hk; omega)) (by rw [hzz]; exact Nat.le_refl _)
      · have := hs.sz; omega
      · rw [hzz]; exact hgr.2
      · intro hmem; have := k3.blk g hmem; omega
      · rintro e a3 W3 ⟨rfl, hs3, hb3⟩
        have hen := run_endRound (P := Tryd.prog) none hs3.lp
        have hRR : ({ ({ R with state := .busy } : Loop) with state := if (none : Option Code).isNone then .ready else .done, pending := none } : Loop) = R := by rw [hR]; rfl
        rw [hRR] at hen
        have hb4 := hs3.busy (R' := R) hlt1 hlt2 hg1 (by omega)
        exact ⟨_, _, hen, rfl, hb4.1, (hbz.2.trans hb3).trans hb4.2⟩
    · rintro e W2 ⟨⟨v, rfl⟩, acc, b, hsc, hs⟩
      have hen := run_endLoop (P := Tryd.prog) hs.lp (by rw [hRs]; simp)
      rw [hRn] at hen
      exact ⟨none, _, hen, hdone W1 _ acc b _ hsc (hs.busy hlt1 hlt2 hg1 (by omega)).1⟩
end Go.Proofs.YtfceljbmdcbciaaDoor
