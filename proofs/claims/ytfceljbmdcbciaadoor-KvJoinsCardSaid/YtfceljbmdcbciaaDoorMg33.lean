/- The closures that keep makes, one by one: what each call of the disk does. Conditions: the closure's variables lie where they are, and no block of the disk is theirs. The list of calls that keep makes, as it lies in memory. No condition. -/
import Derived.Test.YtfceljbmdcbciaaDoorMg32
import Derived.Deep.DeepCutAuto
namespace Go.Proofs.YtfceljbmdcbciaaDoor
set_option maxRecDepth 8000
open Go.RowKit

theorem hd_read {F : Nat → Prop} {w : World} {P : Nat} {d : Dk.D} (h : HD F w P d) : SD0 w P d := h.sd
theorem hd_after {F : Nat → Prop} {w w1 w' : World} {P : Nat} {d : Dk.D} (hb : Below w.heap.size w w1) (h : HD (Or F w1.heap.size w'.heap.size) w' P d ∧ OutP F w1 w') : HD (Or F w.heap.size w'.heap.size) w' P d ∧ OutP F w w' :=
  ⟨h.1.mono (fun _x hx => hx.imp id (fun h => ⟨Nat.le_trans hb.size h.1, h.2⟩)), (OutP.of (F := F) hb).trans h.2 (fun _ _ h => h) (fun _ _ h => h)⟩
/-- A head's bytes are written, in a world that has grown. -/
theorem head_write {F : Nat → Prop} {w w2 : World} {P c p : Nat} {A : Option Addr} {hb : List UInt8} {d : Dk.D} (hd : HD F w P d) (hst : d.st.length ≤ 1048575) (h8 : hb.length = 8) (hF0 : ∀ x, F x → x < w.heap.size) (hb2 : Below w.heap.size w w2) (hrow : Row w.heap.size w2 (.slice A 8 c) hb) :
    Calls Tryd.prog 97 #[.pointer (some ⟨P, 0, none⟩), .int .i64 (p : Int), .slice A 8 c] w2 (IntHD F w2 P (d.writeE (p : Int) hb) (d.write (p : Int) hb)) := by
  have h := write_hd (hd.keep hb2) hst (p : Int) A c hb (by omega) (row_cells hrow) (fun _ ad e hx => by
    subst e
    have h1 := hF0 _ hx
    have h2 := (World.ownsRow.lt hrow ad.block rfl).1
    omega)
  rw [h8] at h
  exact h
theorem out_cell {F : Nat → Prop} {w w' : World} (h : OutP F w w') {b j : Nat} {v : Value} (hc : w.cell? ⟨b, j, none⟩ = some v) (hn : ¬ F b) : w'.cell? ⟨b, j, none⟩ = some v :=
  (World.cell?_of_block (w := w) (w' := w') (a := ⟨b, j, none⟩) (h.block b (World.block_lt_of_cell? w _ hc) hn)).trans hc
theorem cells5 {w w2 : World} {a b c : Nat} {u1 u2 u3 u4 u5 : Value} (hb : Below w.heap.size w w2) (h1 : w.cell? ⟨a, 0, none⟩ = some u1) (h2 : w.cell? ⟨b, 0, none⟩ = some u2) (h3 : w.cell? ⟨c, 0, none⟩ = some u3) (h4 : w.cell? ⟨c, 1, none⟩ = some u4) (h5 : w.cell? ⟨c, 2, none⟩ = some u5) :
    w2.cell? ⟨a, 0, none⟩ = some u1 ∧ w2.cell? ⟨b, 0, none⟩ = some u2 ∧ w2.cell? ⟨c, 0, none⟩ = some u3 ∧ w2.cell? ⟨c, 1, none⟩ = some u4 ∧ w2.cell? ⟨c, 2, none⟩ = some u5 :=
  ⟨(hb.cell (p := ⟨a, 0, none⟩) (World.block_lt_of_cell? w _ h1)).trans h1, (hb.cell (p := ⟨b, 0, none⟩) (World.block_lt_of_cell? w _ h2)).trans h2, (hb.cell (p := ⟨c, 0, none⟩) (World.block_lt_of_cell? w _ h3)).trans h3, (hb.cell (p := ⟨c, 1, none⟩) (World.block_lt_of_cell? w _ h4)).trans h4, (hb.cell (p := ⟨c, 2, none⟩) (World.block_lt_of_cell? w _ h5)).trans h5⟩
theorem drew_out {F : Nat → Prop} (w : World) : OutP F w w.drew := ⟨rfl, rfl, rfl, Nat.le_refl _, fun _ _ _ => rfl⟩
set_option maxHeartbeats 1600000 in
theorem clo_write (F : Nat → Prop) (w : World) (P L gl bi bb i n c : Nat) (A : Option Addr) (b : List UInt8) (d : Dk.D) (hd : HD F w P d) (hst : d.st.length ≤ 1048575)
    (hl : w.cell? ⟨gl, 0, none⟩ = some (.pointer (some ⟨L, 0, none⟩))) (hL : w.cell? ⟨L, 0, none⟩ = some (.pointer (some ⟨P, 0, none⟩))) (hi : w.cell? ⟨bi, 0, none⟩ = some (.int .i64 (i : Int))) (hb : w.cell? ⟨bb, 0, none⟩ = some (.slice A n c))
    (hnl : ¬ F gl) (hnL : ¬ F L) (hnbi : ¬ F bi) (hnbb : ¬ F bb)
    (hn : b.length = n) (hn2 : n ≤ 9223372036854775807) (hB : BIn w A b) (hF : 0 < b.length → ∀ ad, A = some ad → ¬ F ad.block) :
    Calls Tryd.prog 115 #[.pointer (some ⟨gl, 0, none⟩), .pointer (some ⟨bi, 0, none⟩), .pointer (some ⟨bb, 0, none⟩)] w (IntHD F w P (Wl.callE d (.wr i b)) (Wl.call d (.wr i b))) := by
  have HW := Lib.hid (write_hd (hd.out (G := fun _ => False) (drew_out w) (fun _ _ _ h => h)) hst (i : Int) A c b (by omega) hB hF)
  rw [hn] at HW
  have HNN := Lib.hid (And.intro hnl (And.intro hnL (And.intro hnbi hnbb)))
  have g1 : w.drew.cell? ⟨gl, 0, none⟩ = some (.pointer (some ⟨L, 0, none⟩)) := hl
  have g2 : w.drew.cell? ⟨L, 0, none⟩ = some (.pointer (some ⟨P, 0, none⟩)) := hL
  have g3 : w.drew.cell? ⟨bi, 0, none⟩ = some (.int .i64 (i : Int)) := hi
  have g4 : w.drew.cell? ⟨bb, 0, none⟩ = some (.slice A n c) := hb
  clear hl hL hi hb hB hF hn hnl hnL hnbi hnbb hd
  go_enter Tryd.func115, Tryd.ntmps115
  go_wp2_with fail
  go_region_held3 (fun wx => wx.cell? ⟨gl, 0, none⟩ = some (.pointer (some ⟨L, 0, none⟩)) ∧ wx.cell? ⟨L, 0, none⟩ = some (.pointer (some ⟨P, 0, none⟩)) ∧ wx.cell? ⟨bi, 0, none⟩ = some (.int .i64 (i : Int)) ∧ wx.cell? ⟨bb, 0, none⟩ = some (.slice A n c))
    (first
      | exact ⟨h1, h2, h3, h4⟩
      | exact ⟨g1, g2, g3, g4⟩)
    (first
      | (go_at_call 97; refine HW.out.mono ?_; rintro e w2 ⟨rfl, hs⟩; have HS := Lib.hid hs; have h1 := out_cell hs.2 g1 HNN.out.1; have h2 := out_cell hs.2 g2 HNN.out.2.1; have h3 := out_cell hs.2 g3 HNN.out.2.2.1; have h4 := out_cell hs.2 g4 HNN.out.2.2.2; clear hs))
  go_wp2_with fail
  go_ret
  exact ⟨rfl, hd_after (drewN_below w 1) HS.out⟩
set_option maxHeartbeats 1600000 in
theorem clo_head (F : Nat → Prop) (w : World) (P L gl gh g a u : Nat) (d : Dk.D) (hH : Hs w) (hd : HD F w P d) (hF0 : ∀ x, F x → x < w.heap.size) (hst : d.st.length ≤ 1048575) (hg : g ≤ 262143) (ha : a ≤ 1) (hu : u < 8192)
    (hl : w.cell? ⟨gl, 0, none⟩ = some (.pointer (some ⟨L, 0, none⟩))) (hL : w.cell? ⟨L, 0, none⟩ = some (.pointer (some ⟨P, 0, none⟩))) (hh : w.heap[gh]? = some (.cells #[.int .i64 (g : Int), .int .i64 (a : Int), .int .i64 (u : Int)] 82 (0, 0)))
    (hnl : ¬ F gl) (hnL : ¬ F L) (hngh : ¬ F gh) :
    Calls Tryd.prog 96 #[.pointer (some ⟨gl, 0, none⟩), .pointer (some ⟨gh, 0, none⟩)] w (IntHD F w P (Wl.callE d (.wr (g % 2) (Wl.head g a u))) (Wl.call d (.wr (g % 2) (Wl.head g a u)))) := by
  have hdr : Below w.heap.size w w.drew := drewN_below w 1
  have h0 : w.drew.cell? ⟨gh, 0, none⟩ = some (.int .i64 (g : Int)) := cell_of_row w gh 0 _ _ _ hh
  have h1 : w.drew.cell? ⟨gh, 1, none⟩ = some (.int .i64 (a : Int)) := cell_of_row w gh 1 _ _ _ hh
  have h2 : w.drew.cell? ⟨gh, 2, none⟩ = some (.int .i64 (u : Int)) := cell_of_row w gh 2 _ _ _ hh
  have g1 : w.drew.cell? ⟨gl, 0, none⟩ = some (.pointer (some ⟨L, 0, none⟩)) := hl
  have g2 : w.drew.cell? ⟨L, 0, none⟩ = some (.pointer (some ⟨P, 0, none⟩)) := hL
  have HPL := Lib.hid (fun (w' : World) => place_any w' g (by omega))
  have HHB := Lib.hid (headBytes_any w.drew g a u (hH.next hdr) hg ha hu)
  have HDW := Lib.hid (hd.keep hdr)
  have HNN := Lib.hid (And.intro hnl (And.intro hnL hngh))
  have HFW := Lib.hid hF0
  have HL8 : Hid ((Wl.head g a u).length = 8) := Lib.hid rfl
  obtain ⟨hb, hhb⟩ : ∃ hb, hb = Wl.head g a u := ⟨_, rfl⟩
  rw [← hhb] at HHB HL8 ⊢
  obtain ⟨p, hp⟩ : ∃ p, p = g % 2 := ⟨_, rfl⟩
  rw [← hp] at HPL ⊢
  clear hhb hp hd hh hl hL hnl hnL hngh hdr hF0
  go_enter Tryd.func96, Tryd.ntmps96
  go_wp2_with fail
  go_region_held3 (fun wx => wx.cell? ⟨gl, 0, none⟩ = some (.pointer (some ⟨L, 0, none⟩)) ∧ wx.cell? ⟨L, 0, none⟩ = some (.pointer (some ⟨P, 0, none⟩)) ∧ wx.cell? ⟨gh, 0, none⟩ = some (.int .i64 (g : Int)) ∧ wx.cell? ⟨gh, 1, none⟩ = some (.int .i64 (a : Int)) ∧ wx.cell? ⟨gh, 2, none⟩ = some (.int .i64 (u : Int)))
    (first
      | exact ⟨y1, y2, y3, y4, y5⟩
      | exact ⟨x1, x2, x3, x4, x5⟩
      | exact ⟨g1, g2, h0, h1, h2⟩)
    (first
      | (go_at_call 98; refine (HPL.out _).mono ?_; rintro e w1 ⟨rfl, rfl⟩)
      | (go_at_call 99; refine HHB.out.mono ?_; rintro e w2 ⟨A2, c2, rfl, hrow2, hb2⟩; obtain ⟨x1, x2, x3, x4, x5⟩ := cells5 hb2 g1 g2 h0 h1 h2)
      | (go_at_call 97; refine (head_write HDW.out hst HL8.out HFW.out hb2 hrow2).mono ?_; rintro e w3 ⟨rfl, hs⟩; have HS := Lib.hid hs; have y1 := out_cell hs.2 x1 HNN.out.1; have y2 := out_cell hs.2 x2 HNN.out.2.1; have y3 := out_cell hs.2 x3 HNN.out.2.2; have y4 := out_cell hs.2 x4 HNN.out.2.2; have y5 := out_cell hs.2 x5 HNN.out.2.2; clear hs))
  have hb3 : Below w.heap.size w w2 := (drewN_below w 1).trans hb2
  go_wp2_with fail
  go_ret
  exact ⟨rfl, hd_after hb3 HS.out⟩
end Go.Proofs.YtfceljbmdcbciaaDoor
namespace Go.Proofs.YtfceljbmdcbciaaDoor
set_option maxRecDepth 8000
open Go.RowKit

/-- q closures of writes, and other values behind them. -/
structure CList (base gl at0 b off n q : Nat) (W : World) (A : Option Addr) (m c : Nat) (vs tail : List Value) : Prop where
  row : W.ownsRow base 68 1 (.slice A m c) m (vs ++ tail)
  len : vs.length = q
  el : ∀ k, k < q → ∃ v, vs[k]? = some v ∧ CEl base gl W (blkOf A) v (at0 + k) ⟨b, off + 32 * k, none⟩ (min 32 (n - 32 * k))
theorem CRow.list {base gl at0 b off n q c : Nat} {W : World} {A : Option Addr} {vs : List Value} (h : CRow base gl at0 b off n W A q c vs) : CList base gl at0 b off n q W A q c vs [] :=
  ⟨by rw [List.append_nil]; exact h.row, by have := h.row.1; omega, h.el⟩
section
variable {base gl at0 b off n q m c : Nat} {W W' : World} {A : Option Addr} {vs tail : List Value}
theorem CList.next (h : CList base gl at0 b off n q W A m c vs tail) (hb : Below W.heap.size W W') : CList base gl at0 b off n q W' A m c vs tail := by
  refine ⟨own_below h.row hb, h.len, fun k hk => ?_⟩
  obtain ⟨v, hv, bi, bb, e1, e2, e3, e4⟩ := h.el k hk
  exact ⟨v, hv, bi, bb, e1, block_keep hb e2, block_keep hb e3, e4⟩
theorem CList.blk (h : CList base gl at0 b off n q W A m c vs tail) : ∀ x ∈ blkOf A, base ≤ x ∧ x < W.heap.size := fun x hx => by
  cases A with
  | none => simp [blkOf] at hx
  | some ad =>
    simp only [blkOf, List.mem_singleton] at hx
    have := World.ownsRow.lt h.row ad.block rfl
    rw [hx]
    exact this
theorem CList.own (h : CList base gl at0 b off n q W A m c vs tail) : ∀ k, (Value.slice A m c).ownBlock = some k → base ≤ k ∧ k < W.heap.size := fun k hk => World.ownsRow.lt h.row k hk
theorem CList.more (h : CList base gl at0 b off n q W A m c vs tail) {Wd w9 : World} {gg cap : Nat} {news : List Value} {m' : Nat} (hd : Below W.heap.size W Wd)
    (hrow : w9.ownsRow base 68 1 (.slice (some ⟨gg, 0, none⟩) m' cap) m' (vs ++ tail ++ news)) (hgrow : Wd.grownBy w9 (Value.slice A m c).ownBlock) (hat : (Value.slice A m c).ownBlock = some gg ∨ gg = Wd.heap.size) :
    CList base gl at0 b off n q w9 (some ⟨gg, 0, none⟩) m' cap vs (tail ++ news) := by
  have hKo : ∀ x, (Value.slice A m c).ownBlock = some x → x ∈ blkOf A := by
    intro x hx
    cases A with
    | none => simp [Value.ownBlock] at hx
    | some a =>
      simp only [Value.ownBlock, Option.some.injEq] at hx
      simp [blkOf, hx]
  have hkeep : ∀ x, x < Wd.heap.size → x ∉ blkOf A → w9.heap[x]? = Wd.heap[x]? := fun x hx hn => hgrow.block x hx (fun e => hn (hKo x e.symm))
  have hfar : ∀ x, x < Wd.heap.size → x ∉ blkOf A → x ∉ blkOf (some (⟨gg, 0, none⟩ : Addr)) := by
    intro x hx hn hm
    simp only [blkOf, List.mem_singleton] at hm
    rcases hat with e | e
    · exact hn (hm ▸ hKo gg e)
    · omega
  refine ⟨by rw [← List.append_assoc]; exact hrow, h.len, fun k hk => ?_⟩
  obtain ⟨v, hv, bi', bb', e1, e2, e3, e4, e5, e6, e7⟩ := h.el k hk
  have l1 := (Array.getElem?_eq_some_iff.1 e2).1
  have l2 := (Array.getElem?_eq_some_iff.1 e3).1
  have hz := hd.size
  refine ⟨v, hv, bi', bb', e1, ?_, ?_, e4, e5, hfar _ (by omega) e6, hfar _ (by omega) e7⟩
  · rw [hkeep _ (by omega) e6]; exact block_keep hd e2
  · rw [hkeep _ (by omega) e7]; exact block_keep hd e3
end
def syncV (P : Nat) : Value := .func (.func 95) #[.pointer (some ⟨P, 0, none⟩)] #[]
def headV (gk gh : Nat) : Value := .func (.func 96) #[] #[.pointer (some ⟨gk, 0, none⟩), .pointer (some ⟨gh, 0, none⟩)]

/-- What stands behind the first append of keep. -/
def CutR (w2 : World) (L P at0 b off nn : Nat) (v : Value) (wx : World) : Prop :=
  ∃ A c vs base gl, v = .slice A ((nn + 31) / 32 + 1) c ∧ CList base gl at0 b off nn ((nn + 31) / 32) wx A ((nn + 31) / 32 + 1) c vs [syncV P] ∧ Boxed wx gl 29 (.pointer (some ⟨L, 0, none⟩)) ∧ w2.heap.size ≤ gl ∧ gl < base ∧ Below w2.heap.size w2 wx
theorem CutR.below {w2 : World} {L P at0 b off nn : Nat} {v : Value} {wx : World} (h : CutR w2 L P at0 b off nn v wx) : Below w2.heap.size w2 wx := by
  obtain ⟨_, _, _, _, _, _, _, _, _, _, hb⟩ := h
  exact hb
theorem list_end {w2 wc w5 wd w9 : World} {L P at0 b off nn c5 base5 gl5 gg cap : Nat} {A5 : Option Addr} {vs5 : List Value} (hc : Below w2.heap.size w2 wc) (hcr : CRow base5 gl5 at0 b off nn w5 A5 ((nn + 31) / 32) c5 vs5) (hlb : Boxed w5 gl5 29 (.pointer (some ⟨L, 0, none⟩)))
    (h1 : wc.heap.size ≤ gl5) (h2 : gl5 < base5) (hb5 : Below wc.heap.size wc w5) (hd : Below w5.heap.size w5 wd)
    (hown : w9.ownsRow base5 68 1 (.slice (some ⟨gg, 0, none⟩) ((nn + 31) / 32 + 1) cap) ((nn + 31) / 32 + 1) (vs5 ++ [syncV P])) (hgrow : wd.grownBy w9 (Value.slice A5 ((nn + 31) / 32) c5).ownBlock) (hat : (Value.slice A5 ((nn + 31) / 32) c5).ownBlock = some gg ∨ gg = wd.heap.size) :
    CutR w2 L P at0 b off nn (.slice (some ⟨gg, 0, none⟩) ((nn + 31) / 32 + 1) cap) w9 := by
  have hl := (Array.getElem?_eq_some_iff.1 hlb).1
  have hown5 := hcr.own
  have hz := hd.size
  have hb25 : Below w2.heap.size w2 w5 := hc.trans (hb5.mono hc.size)
  refine ⟨some ⟨gg, 0, none⟩, cap, vs5, base5, gl5, rfl, hcr.list.more hd (by rw [List.append_nil]; exact hown) hgrow hat, ?_, by have := hc.size; omega, h2, ?_⟩
  · exact (hgrow.block gl5 (by omega) (fun e => by have := (hown5 gl5 e.symm).1; omega)).trans (block_keep hd hlb)
  · exact (hb25.trans (hd.mono hb25.size)).grown hgrow (by have := hb25.size; omega) (fun k hk => by have := (hown5 k hk).1; have := hc.size; omega)
theorem kstep_push {W : World} {ops : Array Oper} {o : Oper} {a : Act} {K : Act → World → Prop} {Q : Exit → Act → World → Prop} {E : Prop} (s x : Operand) (base B : Nat) (v u : Value) (n : Nat) (cs : List Value)
    (hgd : o.guard = none) (ho : o.op = .call { callee := .builtin .append, args := #[s, x], argTypes := #[153, 153] }) (hs : a.eval s = v) (hx : a.eval x = .slice (some ⟨B, 0, none⟩) 1 1)
    (hown : W.ownsRow base 68 1 v n cs) (hB : W.heap[B]? = some (.cells #[u] 68 (0, 0))) (hu : u.oneCell' = true) (hn : n ≤ 16777216) (hb : base ≤ W.heap.size)
    (hK : ∀ g cap W', W'.ownsRow base 68 1 (.slice (some ⟨g, 0, none⟩) (n + 1) cap) (n + 1) (cs ++ [u]) → W.grownBy W' v.ownBlock → (v.ownBlock = some g ∨ g = W.heap.size) → K (a.put o.dst (.slice (some ⟨g, 0, none⟩) (n + 1) cap)) W') :
    if Region.wanted o (yielded ops a.tmps) = true then Oper.wp Tryd.prog o a W K Q else E := by
  obtain ⟨i0, hi, hz0, hz1, hz2⟩ := info_parts Tryd.infoFunc
  exact step_append_lies (P := Tryd.prog) (w := W) hgd s x 153 ho base 68 i0 _ 1 8 Tryd.underlying153 hi hz0 hz1 hz2 rfl (by omega) v n cs hs hown ⟨B, 0, none⟩ 1 1 [u] hx rfl (World.news_of_block (cs := #[u]) hB) (by simpa using hu) (by omega) (by unfold maxLen; omega) (by omega) hb W.heap.size rfl (fun g cap w' h1 h2 h3 _ => hK g cap w' h1 h2 h3)
/-- append(calls, closure, Sync). -/
theorem list_push2 {W : World} {ops : Array Oper} {rest : List Oper} {o : Oper} {a : Act} {Q : Exit → Act → World → Prop} (hw : Region.wanted o (yielded ops a.tmps) = true) (s x : Operand) (base B : Nat) (v u1 u2 : Value) (n : Nat) (cs : List Value)
    (ho : o.op = .call { callee := .builtin .append, args := #[s, x], argTypes := #[153, 153] }) (hs : a.eval s = v) (hx : a.eval x = .slice (some ⟨B, 0, none⟩) 2 2)
    (hown : W.ownsRow base 68 1 v n cs) (hB : W.heap[B]? = some (.cells #[u1, u2] 68 (0, 0))) (hu1 : u1.oneCell' = true) (hu2 : u2.oneCell' = true) (hn : n ≤ 16777216) (hb : base ≤ W.heap.size)
    (hK : ∀ g cap W', W'.ownsRow base 68 1 (.slice (some ⟨g, 0, none⟩) (n + 2) cap) (n + 2) (cs ++ [u1, u2]) → W.grownBy W' v.ownBlock → (v.ownBlock = some g ∨ g = W.heap.size) → wpList Tryd.prog ops Q rest (a.put o.dst (.slice (some ⟨g, 0, none⟩) (n + 2) cap)) W') :
    wpList Tryd.prog ops Q (o :: rest) a W := by
  obtain ⟨i0, hi, hz0, hz1, hz2⟩ := info_parts Tryd.infoFunc
  refine BigFrame.wpList_want hw fun K hK' => ?_
  obtain ⟨g, cap, W', hr, h2, h3, h4, _⟩ := run_append_lies (P := Tryd.prog) W 153 o.type base 68 i0 _ 1 8 Tryd.underlying153 hi hz0 hz1 hz2 rfl (by omega) v n cs hown ⟨B, 0, none⟩ 2 2 [u1, u2] rfl (World.news_of_block (cs := #[u1, u2]) hB) (by
    intro y hy
    simp only [List.mem_cons, List.not_mem_nil, or_false] at hy
    rcases hy with rfl | rfl
    · exact hu1
    · exact hu2) (by omega) (by unfold maxLen; omega) (by omega) hb W.heap.size rfl
  unfold Oper.wp execOp
  simp only [ho, resolve, invoke, builtin, Sem.run_bind, Sem.run_pure, Result.andThen_ok, List.map_toArray, List.map_cons, List.map_nil, hs, hx, hr]
  exact hK' _ _ (hK g cap W' h2 h3 h4)
end Go.Proofs.YtfceljbmdcbciaaDoor
