/- slices.Chunk of bytes by 32 (its iterator), for any rounds that keep what the caller says; for bytes of at most 2^24. The list of closures that writes makes, as it lies in memory, and what a round of its loop keeps. No condition. -/
import Derived.Test.YtfceljbmdcbciaaDoorMg30
namespace Go.Proofs.YtfceljbmdcbciaaDoor
set_option maxRecDepth 100000
open Go.RowKit
attribute [local go_sem] Oper.semAt_some

theorem chunk_any (A : Option Addr) (c n : Nat) (w : World) :
    Calls Tryd.prog 114 #[.slice A n c, .int .i64 32] w fun e w' => e = .returned (.func (.func 132) #[] #[.pointer (some ⟨w.heap.size, 0, none⟩), .pointer (some ⟨w.heap.size + 1, 0, none⟩)]) ∧ w' = (w.alloc (.cells #[.slice A n c] 36)).alloc (.cells #[.int .i64 32] 3) := by
  go_enter Tryd.func114, Tryd.ntmps114
  go_wp2_with fail
  go_ret
  exact ⟨rfl, rfl⟩

set_option maxHeartbeats 4000000 in
theorem chunk_in (k lp Bs Bn : Nat) (A : Option Addr) (b off c n : Nat) (W : World) (J : Nat → World → Prop) (hk : 1 ≤ k)
    (hJ : ∀ q w w', J q w → Below w.heap.size w w' → J q w') (hJc : ∀ q w, J q w → w.cell? ⟨Bs, 0, none⟩ = some (.slice A n c) ∧ w.cell? ⟨Bn, 0, none⟩ = some (.int .i64 32))
    (hY : ∀ q e w0, 32 * q < n → e = min 32 (n - 32 * q) → J q w0 →
      YieldAt Fence.wide (k - 1) Tryd.prog lp #[.slice (some ⟨b, off + 32 * q, none⟩) e e] w0 fun e' w' => e' = .returned (.bool true) ∧ J (q + 1) w')
    (hA : 0 < n → A = some ⟨b, off, none⟩) (hc : n ≤ c) (hcm : c ≤ 9223372036854775807) (hl : n ≤ 16777216) (h0 : J 0 W) :
    CallsIn Fence.wide k Tryd.prog 132 #[.func (.yield lp) #[] #[], .pointer (some ⟨Bs, 0, none⟩), .pointer (some ⟨Bn, 0, none⟩)] W fun e w' => (∃ v, e = .returned v) ∧ J ((n + 31) / 32) w' := by
  refine callsIn_of_wp Tryd.func132 rfl trivial ?_ rfl
  simp only [Tryd.ntmps132, List.size_toArray, List.length_cons, List.length_nil, Nat.reduceAdd, Nat.reduceSub, Array.replicate_succ, Array.replicate_zero, List.push_toArray, List.append_toArray, List.nil_append, List.cons_append]
  gi_wp2
  gi_loopw [4] (fun v wr => ∃ q, v = .int .i64 ((32 * q : Nat) : Int) ∧ 32 * q < n + 32 ∧ J q wr) (fun v _ => n + 32 - (intOf v).toNat)
  case atStart => exact ⟨0, rfl, by omega, h0⟩
  case round =>
    obtain ⟨q, rfl, hq, hJr⟩ := hrel
    obtain ⟨c1, c2⟩ := hJc _ _ hJr
    obtain ⟨i, hi⟩ : ∃ i, i = 32 * q := ⟨_, rfl⟩
    rw [← hi]
    have HJR := Lib.hid hJr
    have HI := Lib.hid hi
    by_cases hlt : i < n
    · rw [hA (by omega)] at c1
      have hltI : (i : Int) < (n : Int) := by omega
      have hi0 : (0 : Int) ≤ (i : Int) := by omega
      have hic : (i : Int) ≤ (c : Int) := by omega
      have hinI : (i : Int) ≤ (n : Int) := by omega
      have hncI : (n : Int) ≤ (c : Int) := by omega
      obtain ⟨r, hr⟩ : ∃ r, n - i = r := ⟨_, rfl⟩
      obtain ⟨cc, hcc⟩ : ∃ cc, c - i = cc := ⟨_, rfl⟩
      obtain ⟨e, he⟩ : ∃ e, e = min 32 r := ⟨_, rfl⟩
      have hn1 : ¬ c ≤ i := by omega
      have hn2 : (c == i) = false := by simp; omega
      have hn3 : ¬ cc = 0 := by omega
      have hn5 : ¬ c = i := by omega
      have hmin : min (32 : Int) (r : Int) = (e : Int) := by omega
      have hmin2 : min 32 r = e := he.symm
      have HE := Lib.hid he
      have HRR := Lib.hid hr
      clear hJr hi he
      gi_wp2
      gi_region
      have hdr : Below wr.heap.size wr wr.drew := (Below.refl _ _).drew
      have c1' : wr.drew.cell? ⟨Bs, 0, none⟩ = some (.slice (some ⟨b, off, none⟩) n c) := c1
      have c2' : wr.drew.cell? ⟨Bn, 0, none⟩ = some (.int .i64 32) := c2
      have HJD := Lib.hid (hJ _ _ _ HJR.out hdr)
      have HYY := Lib.hid (hY q e wr.drew (by have := HI.out; omega) (by have := HI.out; have := HE.out; omega) HJD.out)
      rw [← HI.out] at HYY
      generalize wr.drew = w2 at c1' c2' HJD HYY ⊢
      obtain ⟨fn, tmps, assign, body, hy, hR⟩ := HYY.out
      clear HYY
      have hie : (i : Int) + (e : Int) ≤ (c : Int) := by omega
      have hie2 : (i : Int) ≤ (i : Int) + (e : Int) := by omega
      have hwe : IntKind.i64.wrap ((i : Int) + (e : Int)) = (i : Int) + (e : Int) := IntWalk.i64_in _ (by omega)
      have he1 : (i : Int) + (e : Int) - (i : Int) = (e : Int) := by omega
      gi_wp2
      refine hR.mono ?_
      rintro _ w3 ⟨rfl, hJ3⟩
      have c3' := (hJc _ _ hJ3).2
      have HJ3 := Lib.hid hJ3
      clear hJ3 hR hy
      gi_wp2
      exact ⟨⟨q + 1, by have := HI.out; rw [show 32 * (q + 1) = i + 32 by omega]; rfl, by have := HI.out; omega, HJ3.out⟩, by simp [intOf]; omega⟩
    · have hltI : ¬ (i : Int) < (n : Int) := by omega
      clear hJr hi
      gi_wp2
      go_end0
      refine ⟨⟨_, rfl⟩, ?_⟩
      have e : (n + 31) / 32 = q := by have := HI.out; omega
      rw [e]
      exact HJR.out
end Go.Proofs.YtfceljbmdcbciaaDoor
namespace Go.Proofs.YtfceljbmdcbciaaDoor
set_option maxRecDepth 100000
open Go.RowKit

theorem Tryd.infoFunc : (Tryd.prog.info? 68).map (fun i => (i.zero, i.size, i.bytes)) = some (some .nilFunc, 1, 8) := by kernel_rfl
def cloV (gl bi bb : Nat) : Value := .func (.func 115) #[] #[.pointer (some ⟨gl, 0, none⟩), .pointer (some ⟨bi, 0, none⟩), .pointer (some ⟨bb, 0, none⟩)]
/-- A closure of writes, with its two variables in blocks of their own. -/
def CEl (base gl : Nat) (W : World) (S : List Nat) (v : Value) (i : Nat) (ad : Addr) (e : Nat) : Prop :=
  ∃ bi bb, v = cloV gl bi bb ∧ W.heap[bi]? = some (.cells #[.int .i64 (i : Int)] 3 (0, 0)) ∧ W.heap[bb]? = some (.cells #[.slice (some ad) e e] 36 (0, 0)) ∧ base ≤ bi ∧ base ≤ bb ∧ bi ∉ S ∧ bb ∉ S
structure CRow (base gl at0 b off n : Nat) (W : World) (A : Option Addr) (q c : Nat) (vs : List Value) : Prop where
  row : W.ownsRow base 68 1 (.slice A q c) q vs
  el : ∀ k, k < q → ∃ v, vs[k]? = some v ∧ CEl base gl W (blkOf A) v (at0 + k) ⟨b, off + 32 * k, none⟩ (min 32 (n - 32 * k))
section
variable {base gl at0 b off n q c : Nat} {W W' : World} {A : Option Addr} {vs : List Value}
theorem CRow.nil (base gl at0 b off n : Nat) (W : World) : CRow base gl at0 b off n W none 0 0 [] := ⟨World.ownsRow_nil _ _ _ _, fun k h => absurd h (by omega)⟩
theorem CRow.far (h : CRow base gl at0 b off n W A q c vs) (hf : ∀ x, base ≤ x → W'.heap[x]? = W.heap[x]?) : CRow base gl at0 b off n W' A q c vs := by
  refine ⟨⟨h.row.1, ?_⟩, fun k hk => ?_⟩
  · rcases h.row.2 with h1 | ⟨g, cap, cur, hv, hb, hg, hr⟩
    · exact .inl h1
    · exact .inr ⟨g, cap, cur, hv, hb, by rw [hf g hb]; exact hg, hr⟩
  · obtain ⟨v, hv, bi, bb, e1, e2, e3, e4, e5, e6⟩ := h.el k hk
    exact ⟨v, hv, bi, bb, e1, (hf bi e4).trans e2, (hf bb e5).trans e3, e4, e5, e6⟩
theorem CRow.next (h : CRow base gl at0 b off n W A q c vs) (hb : Below W.heap.size W W') : CRow base gl at0 b off n W' A q c vs := by
  refine ⟨own_below h.row hb, fun k hk => ?_⟩
  obtain ⟨v, hv, bi, bb, e1, e2, e3, e4⟩ := h.el k hk
  exact ⟨v, hv, bi, bb, e1, block_keep hb e2, block_keep hb e3, e4⟩
theorem CRow.blk (h : CRow base gl at0 b off n W A q c vs) : ∀ x ∈ blkOf A, base ≤ x ∧ x < W.heap.size := fun x hx => by
  cases A with
  | none => simp [blkOf] at hx
  | some ad =>
    simp only [blkOf, List.mem_singleton] at hx
    have := World.ownsRow.lt h.row ad.block rfl
    rw [hx]
    exact this
theorem CRow.own (h : CRow base gl at0 b off n W A q c vs) : ∀ k, (Value.slice A q c).ownBlock = some k → base ≤ k ∧ k < W.heap.size := fun k hk => World.ownsRow.lt h.row k hk
theorem CRow.cap (h : CRow base gl at0 b off n W A q c vs) : q ≤ c ∧ c ≤ 9223372036854775807 := by
  rcases h.row.2 with ⟨h1, h2⟩ | ⟨g, cap, cur, h1, _, _, h2, h3, _⟩
  · injection h1 with _ e1 e2
    subst e2
    omega
  · injection h1 with _ e1 e2
    subst e2
    unfold maxLen at h3
    omega
theorem CRow.push (h : CRow base gl at0 b off n W A q c vs) {Wd w9 : World} {bi bb gg cap : Nat} (hd : Below W.heap.size W Wd)
    (hi : Wd.heap[bi]? = some (.cells #[.int .i64 ((at0 + q : Nat) : Int)] 3 (0, 0))) (hb : Wd.heap[bb]? = some (.cells #[.slice (some ⟨b, off + 32 * q, none⟩) (min 32 (n - 32 * q)) (min 32 (n - 32 * q))] 36 (0, 0))) (hbi : W.heap.size ≤ bi) (hbb : base ≤ bb) (hbA : bb ∉ blkOf A) (hbase : base ≤ W.heap.size)
    (hrow : w9.ownsRow base 68 1 (.slice (some ⟨gg, 0, none⟩) (q + 1) cap) (q + 1) (vs ++ [cloV gl bi bb])) (hgrow : Wd.grownBy w9 (Value.slice A q c).ownBlock) (hat : (Value.slice A q c).ownBlock = some gg ∨ gg = Wd.heap.size) :
    CRow base gl at0 b off n w9 (some ⟨gg, 0, none⟩) (q + 1) cap (vs ++ [cloV gl bi bb]) := by
  have hKo : ∀ x, (Value.slice A q c).ownBlock = some x → x ∈ blkOf A := by
    intro x hx
    cases A with
    | none => simp [Value.ownBlock] at hx
    | some a =>
      simp only [Value.ownBlock, Option.some.injEq] at hx
      simp [blkOf, hx]
  have hAlt := h.blk
  have hkeep : ∀ x, x < Wd.heap.size → x ∉ blkOf A → w9.heap[x]? = Wd.heap[x]? := fun x hx hn => hgrow.block x hx (fun e => hn (hKo x e.symm))
  have hfar : ∀ x, x < Wd.heap.size → x ∉ blkOf A → x ∉ blkOf (some (⟨gg, 0, none⟩ : Addr)) := by
    intro x hx hn hm
    simp only [blkOf, List.mem_singleton] at hm
    rcases hat with e | e
    · exact hn (hm ▸ hKo gg e)
    · omega
  have hvl : vs.length = q := by have := h.row.1; omega
  have hil := (Array.getElem?_eq_some_iff.1 hi).1
  have hbl := (Array.getElem?_eq_some_iff.1 hb).1
  have hiA : bi ∉ blkOf A := fun hm => by have := hAlt bi hm; omega
  refine ⟨hrow, fun k hk => ?_⟩
  by_cases hkq : k < q
  · obtain ⟨v, hv, bi', bb', e1, e2, e3, e4, e5, e6, e7⟩ := h.el k hkq
    have l1 := (Array.getElem?_eq_some_iff.1 e2).1
    have l2 := (Array.getElem?_eq_some_iff.1 e3).1
    have hz := hd.size
    refine ⟨v, by rw [List.getElem?_append_left (by omega)]; exact hv, bi', bb', e1, ?_, ?_, e4, e5, hfar _ (by omega) e6, hfar _ (by omega) e7⟩
    · rw [hkeep _ (by omega) e6]; exact block_keep hd e2
    · rw [hkeep _ (by omega) e7]; exact block_keep hd e3
  · have hke : k = q := by omega
    subst hke
    refine ⟨cloV gl bi bb, by rw [List.getElem?_append_right (by omega), hvl, Nat.sub_self]; rfl, bi, bb, rfl, ?_, ?_, by omega, by omega, hfar _ hil hiA, hfar _ hbl hbA⟩
    · rw [hkeep _ hil hiA]; exact hi
    · rw [hkeep _ hbl hbA]; exact hb
end
/-- What a round of writes keeps. -/
structure WJ (w W1 : World) (gl g9 g10 L at0 b off n D lp base : Nat) (R : Loop) (q : Nat) (W : World) : Prop where
  b0 : Below w.heap.size w W
  b1 : Below w.heap.size W1 W
  sz : base ≤ W.heap.size
  lb : Boxed W gl 29 (.pointer (some ⟨L, 0, none⟩))
  atb : Boxed W g10 3 (.int .i64 (at0 : Int))
  calls : ∃ A c vs, Boxed W g9 153 (.slice A q c) ∧ CRow base gl at0 b off n W A q c vs
  df : W.heap[D]? = some (.deferred (some []))
  lp : W.heap[lp]? = some (.loop R)
theorem WJ.push {w W1 : World} {gl g9 g10 L at0 b off n D base : Nat} {R : Loop} {q : Nat} {W : World} {Ar : Option Addr} {cr : Nat} {vs : List Value} (h : WJ w W1 gl g9 g10 L at0 b off n D (D + 1) base R q W)
    (hD : base = D + 2) (hl : gl < D) (h9 : g9 < D) (h10 : g10 < D) (hl9 : gl ≠ g9) (h109 : g10 ≠ g9) (hw : w.heap.size ≤ g9)
    (hbx : Boxed W g9 153 (.slice Ar q cr)) (hcr : CRow base gl at0 b off n W Ar q cr vs) {Wd w9 : World} {bi bb gg cap : Nat} (hd : Below W.heap.size W Wd)
    (hi : Wd.heap[bi]? = some (.cells #[.int .i64 ((at0 + q : Nat) : Int)] 3 (0, 0))) (hb : W.heap[bb]? = some (.cells #[.slice (some ⟨b, off + 32 * q, none⟩) (min 32 (n - 32 * q)) (min 32 (n - 32 * q))] 36 (0, 0))) (hbi : W.heap.size ≤ bi) (hbb : base ≤ bb) (hbA : bb ∉ blkOf Ar)
    (hrow : w9.ownsRow base 68 1 (.slice (some ⟨gg, 0, none⟩) (q + 1) cap) (q + 1) (vs ++ [cloV gl bi bb])) (hgrow : Wd.grownBy w9 (Value.slice Ar q cr).ownBlock) (hat : (Value.slice Ar q cr).ownBlock = some gg ∨ gg = Wd.heap.size) :
    Boxed w9 g9 153 (.slice Ar q cr) ∧ WJ w W1 gl g9 g10 L at0 b off n D (D + 1) base R (q + 1) (w9.setCell ⟨g9, 0, none⟩ (.slice (some ⟨gg, 0, none⟩) (q + 1) cap)) ∧ ∀ x, x < D → x ≠ g9 → (w9.setCell ⟨g9, 0, none⟩ (.slice (some ⟨gg, 0, none⟩) (q + 1) cap)).heap[x]? = W.heap[x]? := by
  have hcrd := hcr.next hd
  have hown := hcrd.own
  have hsz := h.sz
  have hds := hd.size
  have hkeep : ∀ k, k < base → w9.heap[k]? = W.heap[k]? := fun k hk => by
    rw [hgrow.block k (by omega) (fun e => by have := hown k e.symm; omega)]
    exact hd.block k (by omega)
  have hb9 : Boxed w9 g9 153 (.slice Ar q cr) := (hkeep g9 (by omega)).trans hbx
  have hcr9 := hcr.push hd hi (block_keep hd hb) hbi hbb hbA hsz hrow hgrow hat
  have hbe9 : Below w.heap.size W w9 := (hd.mono h.b0.size).grown hgrow (by have := h.b0.size; omega) (fun k hk => by have := hown k hk; omega)
  obtain ⟨w10, hw10⟩ : ∃ w10, w10 = w9.setCell ⟨g9, 0, none⟩ (.slice (some ⟨gg, 0, none⟩) (q + 1) cap) := ⟨_, rfl⟩
  have hf10 : ∀ k, k ≠ g9 → w10.heap[k]? = w9.heap[k]? := fun k hk => by rw [hw10]; exact Below.heap_setCell _ _ _ k hk
  have hz10 : w9.heap.size ≤ w10.heap.size := by rw [hw10]; exact (grownBy_setCell' w9 g9 _).size
  have hbe10 : Below w.heap.size W w10 := by rw [hw10]; exact hbe9.setCell (p := ⟨g9, 0, none⟩) hw _
  have hall : ∀ k, k < base → k ≠ g9 → w10.heap[k]? = W.heap[k]? := fun k h1 h2 => (hf10 k h2).trans (hkeep k h1)
  rw [← hw10]
  refine ⟨hb9, ⟨h.b0.trans hbe10, h.b1.trans hbe10, ?_, (hall gl (by omega) hl9).trans h.lb, (hall g10 (by omega) h109).trans h.atb, ⟨some ⟨gg, 0, none⟩, cap, _, by rw [hw10]; exact hb9.set _, hcr9.far (fun k hk => hf10 k (by omega))⟩, (hall D (by omega) (by omega)).trans h.df, (hall (D + 1) (by omega) (by omega)).trans h.lp⟩, fun x hx hx9 => hall x (by omega) hx9⟩
  have := hgrow.size
  omega
theorem WJ.next {w W1 : World} {gl g9 g10 L at0 b off n D lp base : Nat} {R : Loop} {q : Nat} {W W' : World} (h : WJ w W1 gl g9 g10 L at0 b off n D lp base R q W) (hw : w.heap.size ≤ W.heap.size) (hb : Below W.heap.size W W') : WJ w W1 gl g9 g10 L at0 b off n D lp base R q W' := by
  obtain ⟨A, c, vs, h1, h2⟩ := h.calls
  exact ⟨h.b0.trans (hb.mono hw), h.b1.trans (hb.mono hw), Nat.le_trans h.sz hb.size, block_keep hb h.lb, block_keep hb h.atb, ⟨A, c, vs, block_keep hb h1, h2.next hb⟩, block_keep hb h.df, block_keep hb h.lp⟩
theorem WJ.busy {w W1 : World} {gl g9 g10 L at0 b off n D base : Nat} {R R' : Loop} {q : Nat} {W : World} (h : WJ w W1 gl g9 g10 L at0 b off n D (D + 1) base R q W) (h1 : gl < D) (h2 : g9 < D) (h3 : g10 < D) (hw : w.heap.size ≤ gl) (hb : D + 1 < base) :
    WJ w W1 gl g9 g10 L at0 b off n D (D + 1) base R' q (W.putObj (D + 1) (.loop R')) ∧ Below w.heap.size W (W.putObj (D + 1) (.loop R')) := by
  obtain ⟨A, c, vs, k1, k2⟩ := h.calls
  have hlt : D + 1 < W.heap.size := (Array.getElem?_eq_some_iff.1 h.lp).1
  have hbe : Below w.heap.size W (W.putObj (D + 1) (.loop R')) := (Below.refl _ _).grown (grownBy_putObj' W _ _) (by have := h.b0.size; omega) (fun k e => by cases e; omega)
  have hfar : ∀ k, k ≠ D + 1 → (W.putObj (D + 1) (.loop R')).heap[k]? = W.heap[k]? := fun k hk => World.putObj_heap_other hk
  refine ⟨⟨h.b0.trans hbe, h.b1.trans hbe, by rw [World.putObj_size]; exact h.sz, (hfar gl (by omega)).trans h.lb, (hfar g10 (by omega)).trans h.atb, ⟨A, c, vs, (hfar g9 (by omega)).trans k1, k2.far (fun k hk => hfar k (by omega))⟩, (hfar D (by omega)).trans h.df, World.putObj_heap_same hlt⟩, hbe⟩
end Go.Proofs.YtfceljbmdcbciaaDoor
