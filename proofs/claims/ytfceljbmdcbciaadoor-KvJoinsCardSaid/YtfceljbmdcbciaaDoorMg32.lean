/- The loop of writes over Chunk's iterator, for whatever code keeps what a round must. The program's own writes of package wal: the closures that write an area's blocks. -/
import Derived.Test.YtfceljbmdcbciaaDoorMg31
import Derived.BigQuiet
namespace Go.Proofs.YtfceljbmdcbciaaDoor
set_option maxRecDepth 100000
open Go.RowKit

set_option maxHeartbeats 1000000 in
theorem writes_loop {asg body : Code} {Q : Exit → Act → World → Prop} {a : Act} {w W0 : World} {gl g9 g10 g3 g4 L at0 b off c n : Nat} {A : Option Addr} (a₁ : Nat → Value → Act)
    (ha : a.eval (.tmp 25) = .func (.func 132) #[] #[.pointer (some ⟨g3, 0, none⟩), .pointer (some ⟨g4, 0, none⟩)])
    (hl : Boxed W0 gl 29 (.pointer (some ⟨L, 0, none⟩))) (h9 : Boxed W0 g9 153 (.slice none 0 0)) (h10 : Boxed W0 g10 3 (.int .i64 (at0 : Int))) (h3 : Boxed W0 g3 36 (.slice A n c)) (h4 : Boxed W0 g4 3 (.int .i64 32)) (hgl : w.heap.size ≤ gl) (h39 : g3 ≠ g9) (h49 : g4 ≠ g9)
    (hbW : Below w.heap.size w W0) (hA : 0 < n → A = some ⟨b, off, none⟩) (hc : n ≤ c) (hcm : c ≤ 9223372036854775807) (hn : n ≤ 16777216)
    (hassign : ∀ (lp : Nat) (ad : Addr) (e : Nat) (W : World) (K : Act → World → Prop), K (a₁ W.heap.size (.slice (some ad) e e)) (W.alloc (.cells #[.slice (some ad) e e] 36)) → asg.wpIn (Fence.wide.inRound lp) 3 Tryd.prog (Exit.then K fun _ _ _ => False) { tmps := a.tmps.setIfInBounds 26 (.slice (some ad) e e), defers := [] } W)
    (hbody : ∀ (W1 : World) (R : Loop) (q e bb : Nat) (W : World) (Ar : Option Addr) (cr : Nat) (vs : List Value), WJ w W1 gl g9 g10 L at0 b off n W0.heap.size (W0.heap.size + 1) (W0.heap.size + 2) R q W →
      Boxed W g9 153 (.slice Ar q cr) → CRow (W0.heap.size + 2) gl at0 b off n W Ar q cr vs → 32 * q < n → e = min 32 (n - 32 * q) → W.heap[bb]? = some (.cells #[.slice (some ⟨b, off + 32 * q, none⟩) e e] 36 (0, 0)) → W0.heap.size + 2 ≤ bb → bb ∉ blkOf Ar →
      body.wpIn (Fence.wide.inRound (W0.heap.size + 1)) 3 Tryd.prog (fun e' _ W' => e' = .normal ∧ WJ w W1 gl g9 g10 L at0 b off n W0.heap.size (W0.heap.size + 1) (W0.heap.size + 2) R (q + 1) W' ∧ (∀ x, x < W0.heap.size → x ≠ g9 → W'.heap[x]? = W.heap[x]?)) (a₁ bb (.slice (some ⟨b, off + 32 * q, none⟩) e e)) W)
    (hdone : ∀ (W1 : World) (R : Loop) (W : World), WJ w W1 gl g9 g10 L at0 b off n W0.heap.size (W0.heap.size + 1) (W0.heap.size + 2) R ((n + 31) / 32) W → Q .normal { a with defers := { target := .collected W0.heap.size, args := #[] } :: a.defers } W) :
    (Code.rangeFunc (.tmp 25) #[26] asg body).wpIn Fence.wide 5 Tryd.prog Q a W0 := by
  refine wpIn_rangeFunc ?_
  intro fn _
  obtain ⟨R, hR⟩ : ∃ R : Loop, R = { state := .ready, pending := none, fn := fn, tmps := a.tmps, params := #[26], assign := asg, body := body, defers := W0.heap.size } := ⟨_, rfl⟩
  have hRs : R.state = .ready := by rw [hR]
  have hRp : R.params = #[26] := by rw [hR]
  have hRt : R.tmps = a.tmps := by rw [hR]
  have hRa : R.assign = asg := by rw [hR]
  have hRb : R.body = body := by rw [hR]
  have hRn : R.pending = none := by rw [hR]
  obtain ⟨D, hD⟩ : ∃ D, D = W0.heap.size := ⟨_, rfl⟩
  obtain ⟨W1, hW1⟩ : ∃ W1, W1 = (W0.alloc (.deferred (some []))).alloc (.loop R) := ⟨_, rfl⟩
  have hltl : gl < D := by rw [hD]; exact hl.lt
  have hlt9 : g9 < D := by rw [hD]; exact h9.lt
  have hlt10 : g10 < D := by rw [hD]; exact h10.lt
  have hlt3 : g3 < D := by rw [hD]; exact h3.lt
  have hlt4 : g4 < D := by rw [hD]; exact h4.lt
  have hB1 : Below W0.heap.size W0 W1 := by rw [hW1]; exact ((Below.refl _ W0).alloc (Nat.le_refl _) _).alloc (by simp) _
  have hz1 : W1.heap.size = D + 2 := by rw [hW1, hD]; simp
  have hdf : W1.heap[D]? = some (.deferred (some [])) := by rw [hW1, hD]; exact (Below.heap_alloc _ _ _ (by simp)).trans (World.alloc_heap_new W0 _)
  have hlp : W1.heap[D + 1]? = some (.loop R) := by rw [hW1, hD]; have := World.alloc_heap_new (W0.alloc (.deferred (some []))) (.loop R); rwa [World.size_alloc] at this
  have hwW : Below w.heap.size w W1 := hbW.trans (hB1.mono hbW.size)
  have hJ0 : WJ w W1 gl g9 g10 L at0 b off n D (D + 1) (D + 2) R 0 W1 := ⟨hwW, Below.refl _ _, by omega, block_keep hB1 hl, block_keep hB1 h10, ⟨none, 0, [], block_keep hB1 h9, CRow.nil _ _ _ _ _ _ _⟩, hdf, hlp⟩
  rw [← hD] at hbody hdone
  refine ⟨D + 1, [{ target := .collected D, args := #[] }], W1, { target := .fn (.func 132) #[.pointer (some ⟨g3, 0, none⟩), .pointer (some ⟨g4, 0, none⟩)], args := #[.func (.yield (D + 1)) #[] #[]] }, W1, 132, #[.func (.yield (D + 1)) #[] #[], .pointer (some ⟨g3, 0, none⟩), .pointer (some ⟨g4, 0, none⟩)], W1, ?_, ?_, fun _ _ => trivial, ?_, fun h => (by cases h), ?_⟩
  · rw [hW1, hR, hD]; exact run_enterLoop_outer _ _ _ _ _
  · simp only [resolve, ha]
    simp [go_sem]
  · have he := enters_of (P := Tryd.prog) Tryd.func132 (by kernel_rfl) rfl
    simp [invoke, go_sem]
  · have hs0 : ∀ {q : Nat} {W : World}, WJ w W1 gl g9 g10 L at0 b off n D (D + 1) (D + 2) R q W → w.heap.size ≤ W.heap.size := fun h => h.b0.size
    refine (chunk_in 4 (D + 1) g3 g4 A b off c n W1 (fun q W => WJ w W1 gl g9 g10 L at0 b off n D (D + 1) (D + 2) R q W ∧ Boxed W g3 36 (.slice A n c) ∧ Boxed W g4 3 (.int .i64 32)) (by omega)
      (fun q W W' h hb' => ⟨h.1.next (hs0 h.1) hb', block_keep hb' h.2.1, block_keep hb' h.2.2⟩) (fun q W h => ⟨h.2.1.cell, h.2.2.cell⟩) ?_ hA hc hcm hn ⟨hJ0, block_keep hB1 h3, block_keep hB1 h4⟩).mono ?_
    · rintro q e Wb hq he ⟨hs, hx3, hx4⟩
      have hy := run_yield (P := Tryd.prog) (args := #[.slice (some ⟨b, off + 32 * q, none⟩) e e]) hs.lp (by rw [hRp]; rfl)
      rw [hRp, hRt, hRa, hRb] at hy
      have hfold : (#[(26 : Tmp)].zip #[Value.slice (some ⟨b, off + 32 * q, none⟩) e e]).foldl (fun t (p, v) => t.setIfInBounds p v) a.tmps = a.tmps.setIfInBounds 26 (.slice (some ⟨b, off + 32 * q, none⟩) e e) := by simp
      refine ⟨_, _, _, _, hy, roundIn_of_wpIn trivial ?_⟩
      rw [hfold]
      refine hassign (D + 1) _ _ Wb _ ?_
      obtain ⟨Wc, hWc⟩ : ∃ Wc, Wc = Wb.alloc (.cells #[.slice (some ⟨b, off + 32 * q, none⟩) e e] 36) := ⟨_, rfl⟩
      have hbc : Below Wb.heap.size Wb Wc := by rw [hWc]; exact (Below.refl _ _).alloc (Nat.le_refl _) _
      have hbb : Wc.heap[Wb.heap.size]? = some (.cells #[.slice (some ⟨b, off + 32 * q, none⟩) e e] 36 (0, 0)) := by rw [hWc]; exact heap_alloc_new Wb _
      rw [← hWc]
      have hs2 := hs.next (hs0 hs) hbc
      have hbz := hs2.busy (R' := { R with state := .busy }) hltl hlt9 hlt10 hgl (by omega)
      refine ⟨_, run_beginRound hs2.lp hRs, ?_⟩
      have hszb := hs.sz
      obtain ⟨Ar, cr, vs, k1, k2⟩ := hbz.1.calls
      refine wpIn_mono (hbody W1 _ q e Wb.heap.size _ Ar cr vs hbz.1 k1 k2 hq he ?_ ?_ ?_) ?_
      · exact (World.putObj_heap_other (by omega)).trans hbb
      · omega
      · intro hmem
        obtain ⟨Ar', cr', vs', k1', k2'⟩ := hs.calls
        have e1 : Boxed (Wc.putObj (D + 1) (.loop { R with state := .busy })) g9 153 (.slice Ar' q cr') := (World.putObj_heap_other (by omega)).trans (block_keep hbc k1')
        have e2 := k1.symm.trans e1
        injection e2 with e2
        injection e2 with e2 _ _
        have e3 : Value.slice Ar q cr = Value.slice Ar' q cr' := by
          have := congrArg (fun (x : Array Value) => x[0]?) e2
          simpa using this
        injection e3 with e3 _ _
        rw [e3] at hmem
        have := k2'.blk _ hmem
        omega
      · rintro e' a3 W3 ⟨rfl, hs3, hb3⟩
        have hen := run_endRound (P := Tryd.prog) none hs3.lp
        have hRR : ({ ({ R with state := .busy } : Loop) with state := if (none : Option Code).isNone then .ready else .done, pending := none } : Loop) = R := by rw [hR]; rfl
        rw [hRR] at hen
        have hb4 := hs3.busy (R' := R) hltl hlt9 hlt10 hgl (by omega)
        refine ⟨_, _, hen, rfl, hb4.1, ?_, ?_⟩
        · exact (World.putObj_heap_other (by omega)).trans ((hb3 g3 (by omega) h39).trans ((World.putObj_heap_other (by omega)).trans (block_keep hbc hx3)))
        · exact (World.putObj_heap_other (by omega)).trans ((hb3 g4 (by omega) h49).trans ((World.putObj_heap_other (by omega)).trans (block_keep hbc hx4)))
    · rintro e W2 ⟨⟨v, rfl⟩, hs, _⟩
      have hen := run_endLoop (P := Tryd.prog) hs.lp (by rw [hRs]; simp)
      rw [hRn] at hen
      exact ⟨none, _, hen, hdone W1 _ _ (hs.busy hltl hlt9 hlt10 hgl (by omega)).1⟩
end Go.Proofs.YtfceljbmdcbciaaDoor
namespace Go.Proofs.YtfceljbmdcbciaaDoor
set_option maxRecDepth 100000
open Go.RowKit
attribute [local go_sem] Oper.semAt_some

/-- The closures that writes tells: q of them, for bytes at an address. -/
def WritesPost (w : World) (L at0 b off n : Nat) (e : Ending) (w' : World) : Prop :=
  ∃ A c vs base gl, e = .returned (.slice A ((n + 31) / 32) c) ∧ CRow base gl at0 b off n w' A ((n + 31) / 32) c vs ∧ Boxed w' gl 29 (.pointer (some ⟨L, 0, none⟩)) ∧ w.heap.size ≤ gl ∧ gl < base ∧ base ≤ w'.heap.size ∧ Below w.heap.size w w'

theorem slice_from (A : Option Addr) (M c frm b o : Nat) (hf : 32 * frm ≤ M) (hA : 0 < M → A = some ⟨b, o, none⟩) (hA0 : A = none → c = 0) (hM : M ≤ c) :
    ∃ A2 c2, (∀ W, (Instr.sliceAt 36 (.slice A M c) (some (.int .i64 ((frm : Int) * 32))) none none).run Tryd.prog W = .ok (.slice A2 (M - 32 * frm) c2) W) ∧ (0 < M - 32 * frm → A2 = some ⟨b, o + 32 * frm, none⟩) ∧ M - 32 * frm ≤ c2 ∧ c2 ≤ c := by
  have hf1 : (0 : Int) ≤ (frm : Int) * 32 := by omega
  have hf2 : (frm : Int) * 32 ≤ (M : Int) := by omega
  have hf3 : (frm : Int) * 32 ≤ (c : Int) := by omega
  have hf4 : (M : Int) ≤ (c : Int) := by omega
  have hft : ((frm : Int) * 32).toNat = 32 * frm := by omega
  cases A with
  | none =>
    have hc0 := hA0 rfl
    subst hc0
    have hM0 : M = 0 := by omega
    subst hM0
    have hf0 : frm = 0 := by omega
    subst hf0
    refine ⟨none, 0, fun W => ?_, fun h => absurd h (by omega), by omega, by omega⟩
    simp [Instr.sliceAt, run_underlying Tryd.underlying36, Instr.slice, go_sem]
  | some ad =>
    by_cases hc : c = 32 * frm
    · refine ⟨some ad, 0, fun W => ?_, fun h => absurd h (by omega), by omega, by omega⟩
      simp [Instr.sliceAt, run_underlying Tryd.underlying36, Instr.slice, go_sem]
      rw [if_pos ⟨hf1, hf2⟩, hft, if_pos hc, show c - 32 * frm = 0 by omega]
    · refine ⟨some (ad.add (32 * frm)), c - 32 * frm, fun W => ?_, fun h => ?_, by omega, by omega⟩
      · simp [Instr.sliceAt, run_underlying Tryd.underlying36, Instr.slice, go_sem]
        rw [if_pos ⟨hf1, hf2⟩, hft, if_neg hc]
      · have := hA (by omega)
        injection this with this
        rw [this, Addr.add_mid]

/-- append(calls, a closure): a step of a region, in a round or not. -/
theorem listIn_push {F : Fence} {nF : Nat} {W : World} {ops : Array Oper} {rest : List Oper} {o : Oper} {a : Act} {Q : Exit → Act → World → Prop} (s x : Operand) (base B : Nat) (v u : Value) (n : Nat) (cs : List Value)
    (hgd : o.guard = none) (ho : o.op = .call { callee := .builtin .append, args := #[s, x], argTypes := #[153, 153] }) (hs : a.eval s = v) (hx : a.eval x = .slice (some ⟨B, 0, none⟩) 1 1)
    (hown : W.ownsRow base 68 1 v n cs) (hB : W.heap[B]? = some (.cells #[u] 68 (0, 0))) (hu : u.oneCell' = true) (hn : n ≤ 16777216) (hb : base ≤ W.heap.size)
    (hK : ∀ g cap W', W'.ownsRow base 68 1 (.slice (some ⟨g, 0, none⟩) (n + 1) cap) (n + 1) (cs ++ [u]) → W.grownBy W' v.ownBlock → (v.ownBlock = some g ∨ g = W.heap.size) → wpListIn F nF Tryd.prog ops Q rest (a.put o.dst (.slice (some ⟨g, 0, none⟩) (n + 1) cap)) W') :
    wpListIn F nF Tryd.prog ops Q (o :: rest) a W := by
  obtain ⟨i0, hi, hz0, hz1, hz2⟩ := info_parts Tryd.infoFunc
  obtain ⟨g, cap, W', hr, h2, h3, h4, _⟩ := run_append_lies (P := Tryd.prog) W 153 o.type base 68 i0 _ 1 8 Tryd.underlying153 hi hz0 hz1 hz2 rfl (by omega) v n cs hown ⟨B, 0, none⟩ 1 1 [u] rfl (World.news_of_block (cs := #[u]) hB) (by simpa using hu) (by omega) (by unfold maxLen; omega) (by omega) hb W.heap.size rfl
  refine wpListIn_plain hgd fun K hK' => ?_
  unfold Oper.wpIn
  refine ⟨by simp [Oper.about, ho, resolve, Target.leads, Sem.run_pure], ?_⟩
  rw [Oper.semAt_plain F _ _ (by rw [ho]; intro c hc'; cases hc')]
  simp [execOp, ho, resolve, invoke, builtin, hs, hx, hr, Result.andThen]
  exact hK' _ _ (hK g cap W' h2 h3 h4)

set_option maxHeartbeats 4000000 in
theorem writes_any (w : World) (m : Lm) (l : Wl.L) (d : Dk.D) (a frm M c b o : Nat) (A : Option Addr) (h : LAt w m l) (hd : SD0 w m.P d) (h2 : 2 ≤ d.n) (ha : a ≤ 1) (hf : 32 * frm ≤ M) (hA : 0 < M → A = some ⟨b, o, none⟩) (hA0 : A = none → c = 0) (hM : M ≤ c) (hcm : c ≤ 9223372036854775807) (hM2 : M ≤ 16384) :
    Calls Tryd.prog 94 #[.pointer (some ⟨m.L, 0, none⟩), .int .i64 (a : Int), .int .i64 (frm : Int), .slice A M c] w (WritesPost w m.L (Wl.start d.n a + frm) b (o + 32 * frm) (M - 32 * frm)) := by
  have c0 := h.c.1
  have hst := Lib.hid (fun (w' : World) (hb : Below w.heap.size w w') => areaStart_any (hd.keep hb) h2 a ha)
  have hLlt : m.L < w.heap.size := h.lt _ ((mem_LF m _).2 (.inl rfl))
  have hn := hd.ok.n
  obtain ⟨st, hst0⟩ : ∃ st, st = Wl.start d.n a := ⟨_, rfl⟩
  rw [← hst0] at hst ⊢
  have hsl : st ≤ 1024 := by
    rw [hst0]
    unfold Wl.start Wl.areaBlocks
    have : a = 0 ∨ a = 1 := by omega
    rcases this with rfl | rfl <;> omega
  obtain ⟨at0, hat⟩ : ∃ at0, at0 = st + frm := ⟨_, rfl⟩
  rw [← hat]
  have HAT := Lib.hid hat
  have hatI : (st : Int) + (frm : Int) = (at0 : Int) := by omega
  have hatw : IntKind.i64.wrap (at0 : Int) = (at0 : Int) := IntWalk.i64_in _ (by omega)
  have hfw : IntKind.i64.wrap ((frm : Int) * 32) = (frm : Int) * 32 := IntWalk.i64_in _ (by omega)
  clear h hd hst0 hat
  obtain ⟨A2, c2, hsl2, hA2, hn2, hcc2⟩ := slice_from A M c frm b o hf hA hA0 hM
  obtain ⟨n, hn0⟩ : ∃ n, n = M - 32 * frm := ⟨_, rfl⟩
  rw [← hn0] at hsl2 hA2 hn2 ⊢
  have hnl : n ≤ 16384 := by omega
  have HA2 := Lib.hid hA2
  clear hn0 hA hA0 hA2
  refine (callsIn_wide (n := 5)).1 ?_
  refine callsIn_of_wp_marks Tryd.func94 rfl trivial ?_ rfl
  simp only [Tryd.ntmps94, List.size_toArray, List.length_cons, List.length_nil, Nat.reduceAdd, Nat.reduceSub, Array.replicate_succ, Array.replicate_zero, List.push_toArray, List.append_toArray, List.nil_append, List.cons_append]
  gi_wp2
  obtain ⟨gl, hgl⟩ : ∃ gl, gl = w.heap.size := ⟨_, rfl⟩
  obtain ⟨wa, hwa⟩ : ∃ wa, wa = w.alloc (.cells #[.pointer (some ⟨m.L, 0, none⟩)] 29) := ⟨_, rfl⟩
  have ba : Boxed wa gl 29 (.pointer (some ⟨m.L, 0, none⟩)) := by rw [hwa, hgl]; exact heap_alloc_new w _
  have hba : Below w.heap.size w wa := by rw [hwa]; exact (Below.refl _ _).alloc (Nat.le_refl _) _
  have hza : wa.heap.size = gl + 1 := by rw [hwa, hgl]; simp
  obtain ⟨g9, hg9⟩ : ∃ g9, g9 = gl + 1 := ⟨_, rfl⟩
  obtain ⟨wb, hwb⟩ : ∃ wb, wb = wa.alloc (.cells #[.slice none 0 0] 153) := ⟨_, rfl⟩
  have bb1 : Boxed wb gl 29 (.pointer (some ⟨m.L, 0, none⟩)) := by rw [hwb]; exact ba.alloc _
  have bb2 : Boxed wb g9 153 (.slice none 0 0) := by rw [hwb, hg9, ← hza]; exact heap_alloc_new wa _
  have hbb : Below wa.heap.size wa wb := by rw [hwb]; exact (Below.refl _ _).alloc (Nat.le_refl _) _
  have hzb : wb.heap.size = g9 + 1 := by rw [hwb, hg9]; simp [hza]
  have hbw : Below w.heap.size w wb := hba.trans (hbb.mono hba.size)
  rw [← hwa, ← hwb, ← hgl, ← hg9]
  have HG := Lib.hid (And.intro hgl hg9)
  have HBW := Lib.hid hbw
  have HST := Lib.hid (hst.out wb hbw)
  have HB1 := Lib.hid bb1
  have HB2 := Lib.hid bb2
  have HZB := Lib.hid hzb
  clear hwa hwb ba hba hza hbb hzb hbw bb1 bb2 hst hgl hg9 c0
  refine ⟨trivial, (callsIn_wide.2 HST.out).mono ?_⟩
  rintro _ _ ⟨rfl, rfl⟩
  gi_wp2
  obtain ⟨g10, hg10⟩ : ∃ g10, g10 = wb.heap.size := ⟨_, rfl⟩
  obtain ⟨wc, hwc⟩ : ∃ wc, wc = wb.alloc (.cells #[.int .i64 (at0 : Int)] 3) := ⟨_, rfl⟩
  have bc : Boxed wc g10 3 (.int .i64 (at0 : Int)) := by rw [hwc, hg10]; exact heap_alloc_new wb _
  have hbc : Below wb.heap.size wb wc := by rw [hwc]; exact (Below.refl _ _).alloc (Nat.le_refl _) _
  have hzc : wc.heap.size = g10 + 1 := by rw [hwc, hg10]; simp
  rw [← hwc, ← hg10]
  have bc1 := block_keep hbc HB1.out
  have bc2 := block_keep hbc HB2.out
  have HBC := Lib.hid hbc
  have HZC := Lib.hid hzc
  have HG10 : Hid (g10 = g9 + 1) := Lib.hid (by have := HZB.out; omega)
  clear hwc hbc hzc hg10
  refine ⟨trivial, (callsIn_wide.2 (chunk_any A2 c2 n wc)).mono ?_⟩
  rintro _ W0 ⟨rfl, hW0⟩
  obtain ⟨g3, hg3⟩ : ∃ g3, g3 = wc.heap.size := ⟨_, rfl⟩
  have hb0 : Below wc.heap.size wc W0 := by rw [hW0]; exact ((Below.refl _ _).alloc (Nat.le_refl _) _).alloc (by simp) _
  have b3 : Boxed W0 g3 36 (.slice A2 n c2) := by rw [hW0, hg3]; exact (Below.heap_alloc _ _ _ (by simp)).trans (heap_alloc_new wc _)
  have b4 : Boxed W0 (g3 + 1) 3 (.int .i64 32) := by rw [hW0, hg3]; have := heap_alloc_new (wc.alloc (.cells #[.slice A2 n c2] 36)) (.cells #[.int .i64 32] 3); rwa [World.size_alloc] at this
  have bl := block_keep hb0 bc1
  have b9 := block_keep hb0 bc2
  have b10 := block_keep hb0 bc
  have hbW : Below w.heap.size w W0 := (HBW.out.trans (HBC.out.mono HBW.out.size)).trans (hb0.mono (by have := HBW.out.size; have := HBC.out.size; omega))
  rw [← hg3]
  have HG3 : Hid (g3 = g10 + 1) := Lib.hid (by have := HZC.out; omega)
  clear hW0 hg3 hb0 bc bc1 bc2
  have hge : w.heap.size ≤ gl := by have := HG.out.1; omega
  have h39 : g3 ≠ g9 := by have := HG3.out; have := HG10.out; omega
  have h49 : g3 + 1 ≠ g9 := by have := HG3.out; have := HG10.out; omega
  gi_wp2
  refine writes_loop (w := w) (L := m.L) (at0 := at0) (b := b) (off := o + 32 * frm) (A := A2) (c := c2) (n := n) (gl := gl) (g9 := g9) (g10 := g10) (g3 := g3) (g4 := g3 + 1) (fun bx v => { tmps := #[.pointer (some ⟨m.L, 0, none⟩), .int .i64 (a : Int), .int .i64 (frm : Int), .slice A M c, .pointer (some ⟨gl, 0, none⟩), undef, undef, undef, .slice none 0 0, .pointer (some ⟨g9, 0, none⟩), .pointer (some ⟨g10, 0, none⟩), .pointer (some ⟨bx, 0, none⟩), undef, .pointer (some ⟨m.L, 0, none⟩), .pointer (some ⟨m.L, 0, none⟩), .pointer (some ⟨m.L, 0, none⟩), .pointer (some ⟨m.P, 0, none⟩), .int .i64 (a : Int), .int .i64 (st : Int), .int .i64 (frm : Int), .int .i64 (at0 : Int), .slice A M c, .int .i64 (frm : Int), .int .i64 ((frm : Int) * 32), .slice A2 n c2, .func (.func 132) #[] #[.pointer (some ⟨g3, 0, none⟩), .pointer (some ⟨g3 + 1, 0, none⟩)], v, undef, undef, undef, undef, undef, undef, undef, undef, undef], defers := [] })
    rfl bl b9 b10 b3 b4 hge h39 h49 hbW HA2.out hn2 (by omega) (by omega) ?assign ?body ?done
  case assign =>
    intro lp ad e W K hK
    gi_wp2
    exact hK
  case body =>
    intro W1 R q e bx W Ar cr vs hs hbx hcr hq he hbb hbge hbn
    have hc1 := hbx.cell
    have hc2 := hs.atb.cell
    have HE := Lib.hid he
    have hwi : IntKind.i64.wrap ((at0 : Int) + (q : Int)) = (at0 : Int) + (q : Int) := IntWalk.i64_in _ (by omega)
    have hba : Below W.heap.size W (W.alloc (.cells #[.int .i64 ((at0 : Int) + (q : Int))] 3)) := (Below.refl _ _).alloc (Nat.le_refl _) _
    have hc3 : (W.alloc (.cells #[.int .i64 ((at0 : Int) + (q : Int))] 3)).cell? ⟨g9, 0, none⟩ = some (.slice Ar q cr) := (hbx.alloc _).cell
    have hmf : ∀ (fn : Fn) (first cap : Array Value) (w : World), (Instr.makeFunc fn first cap).run Tryd.prog w = .ok (.func fn first cap) w := fun _ _ _ _ => rfl
    have HS := Lib.hid hs
    have HBX := Lib.hid hbx
    have HCR := Lib.hid hcr
    have HBB := Lib.hid (And.intro hbb (And.intro hbge hbn))
    clear he hs hbx hcr hbb hbge hbn hba
    obtain ⟨i0, hi, hz0, hz1, hz2⟩ := info_parts Tryd.infoFunc
    have hbd : Below W.heap.size W ((W.alloc (.cells #[.int .i64 ((at0 : Int) + (q : Int))] 3)).alloc (.cells #[cloV gl W.heap.size bx] 68)) := ((Below.refl _ _).alloc (Nat.le_refl _) _).alloc (by simp) _
    have hrw := (HCR.out.next hbd).row
    have hq16 : q ≤ 16384 := by omega
    have hbase : W0.heap.size + 2 ≤ W.heap.size := HS.out.sz
    have hnews : ((W.alloc (.cells #[.int .i64 ((at0 : Int) + (q : Int))] 3)).alloc (.cells #[cloV gl W.heap.size bx] 68)).heap[W.heap.size + 1]? = some (.cells #[cloV gl W.heap.size bx] 68 (0, 0)) := by
      have := heap_alloc_new (W.alloc (.cells #[.int .i64 ((at0 : Int) + (q : Int))] 3)) (.cells #[cloV gl W.heap.size bx] 68)
      rwa [World.size_alloc] at this
    have hib : ((W.alloc (.cells #[.int .i64 ((at0 : Int) + (q : Int))] 3)).alloc (.cells #[cloV gl W.heap.size bx] 68)).heap[W.heap.size]? = some (.cells #[.int .i64 ((at0 : Int) + (q : Int))] 3 (0, 0)) := by
      rw [Below.heap_alloc _ _ _ (by simp)]
      exact heap_alloc_new W _
    have HBD := Lib.hid hbd
    have HPU := Lib.hid (fun w9 gg cap h1 h2 h3 => WJ.push (w9 := w9) (gg := gg) (cap := cap) (bi := W.heap.size) (bb := bx) HS.out rfl ((Array.getElem?_eq_some_iff.1 bl).1) ((Array.getElem?_eq_some_iff.1 b9).1) ((Array.getElem?_eq_some_iff.1 b10).1) (by have := HG.out.2; omega) (by have := HG10.out; omega) (by have := HG.out; omega) HBX.out HCR.out hbd hib (by rw [← HE.out]; exact HBB.out.1) (Nat.le_refl _) HBB.out.2.1 HBB.out.2.2 h1 h2 h3)
    clear hbd hib
    gi_wp2_with (gi_at_builtin; refine listIn_push (.tmp 31) (.tmp 33) (W0.heap.size + 2) (W.heap.size + 1) (.slice Ar q cr) (cloV gl W.heap.size bx) q vs rfl rfl rfl rfl hrw hnews rfl (by omega) (Nat.le_trans hbase HBD.out.size) ?_; intro gg cap w9 hown9 hgrow9 hat9; obtain ⟨hb9, hend⟩ := HPU.out w9 gg cap hown9 hgrow9 hat9; have hc9 := hb9.cell; have hf9 := hb9.frozen; have HEND := Lib.hid hend; clear hend hown9 hgrow9 hat9 hb9)
    exact HEND.out
  case done =>
    intro W1 R W hs
    obtain ⟨Ar, cr, vs, hbx, hcr⟩ := hs.calls
    have hc1 := hbx.cell
    have HCR := Lib.hid hcr
    have hK := hs.df
    gi_wp2
    refine ⟨by simp, .inl ⟨_, _, rfl, run_takeDeferred (w := W) hK, ?_⟩⟩
    have hbll : gl < W0.heap.size := (Array.getElem?_eq_some_iff.1 bl).1
    have hlt : W0.heap.size < W.heap.size := (Array.getElem?_eq_some_iff.1 hK).1
    have hb2 : Below w.heap.size W (W.putObj W0.heap.size (.deferred none)) := (Below.refl _ _).grown (grownBy_putObj' W _ _) (by have := hs.b0.size; exact this) (fun k e => by cases e; exact hbW.size)
    have hcr2 : CRow (W0.heap.size + 2) gl at0 b (o + 32 * frm) n (W.putObj W0.heap.size (.deferred none)) Ar ((n + 31) / 32) cr vs := hcr.far (fun k hk => World.putObj_heap_other (by omega))
    refine ⟨_, results_tmp rfl _ _ _, Ar, cr, vs, W0.heap.size + 2, gl, rfl, hcr2, ?_, hge, ?_, ?_, hs.b0.trans hb2⟩
    · exact (World.putObj_heap_other (by have := hbll; omega)).trans hs.lb
    · have := hbll; omega
    · rw [World.putObj_size]; exact hs.sz
end Go.Proofs.YtfceljbmdcbciaaDoor
