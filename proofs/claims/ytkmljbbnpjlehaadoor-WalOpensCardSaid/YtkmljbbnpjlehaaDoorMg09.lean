/- The program's own iterator over frames (frames and its function), for any rounds that keep what the caller says; for any bytes of at most 2^24. What a round of the program's own Scan keeps of its state, step by step; an append at a step of a region that draws, within a round. No condition. -/
import Derived.Test.YtkmljbbnpjlehaaDoorMg08
import Derived.Lib.SliceRun
import Derived.RangeFuncBound
import Derived.RangeFuncCalls
import Derived.RangeFuncLeaves
import Derived.Shelf.Abstract
import Derived.Shelf.RegionOpen
import Derived.OwnWalkIn
import Derived.TacticsInMore
import Derived.LoopNIn
import Derived.LoopIn
import Derived.RangeFuncBox
import Derived.RangeFuncFrom
namespace Go.Proofs.YtkmljbbnpjlehaaDoor
set_option maxRecDepth 100000
open Go.RowKit
attribute [local go_sem] Oper.semAt_some

theorem eql_nil (w : World) : (binOp .eql 36 (.slice none 0 0) (.slice none 0 0)).run Tryd.prog w = .ok (.bool true) w := Lib.run_eql_slice_nil w _ 5 none 0 0 0 0 Tryd.underlying36
theorem eql_some (w : World) (g n c : Nat) : (binOp .eql 36 (.slice (some ⟨g, 0, none⟩) n c) (.slice none 0 0)).run Tryd.prog w = .ok (.bool false) w := Lib.run_eql_slice_nil w _ 5 (some ⟨g, 0, none⟩) n c 0 0 Tryd.underlying36
theorem first_some {A : Option Addr} {c n : Nat} {l x r : List UInt8} {fl : Nat} {w : World} (hH : Hs w) (hn : l.length = n) (hb : BCells w w.heap.size A l) (hc : n ≤ c) (hcm : c ≤ 9223372036854775807) (hl : n ≤ 16777216) (ho : Fr.one l = some (x, r)) (hfl : fl = 6 + x.length) :
    Calls Tryd.prog 119 #[.slice A n c] w fun e w' => Below w.heap.size w w' ∧ ∃ g cf, e = .returned (.slice (some ⟨g, 0, none⟩) fl cf) ∧ Row w.heap.size w' (.slice (some ⟨g, 0, none⟩) fl cf) (Fr.frame x) := by
  subst hfl
  refine (first_any A c n l w hH hn hb hc hcm hl).mono ?_
  rintro e w' ⟨h1, h2⟩
  rw [ho] at h2
  obtain ⟨A', c', rfl, hrow⟩ := h2
  obtain ⟨g, cap, hv, _, _⟩ := World.ownsRow.form hrow (by rw [Fr.frame_len]; omega)
  injection hv with hA _ _
  subst hA
  exact ⟨h1, g, c', rfl, hrow⟩
theorem first_none {A : Option Addr} {c n : Nat} {l : List UInt8} {w : World} (hH : Hs w) (hn : l.length = n) (hb : BCells w w.heap.size A l) (hc : n ≤ c) (hcm : c ≤ 9223372036854775807) (hl : n ≤ 16777216) (ho : Fr.one l = none) :
    Calls Tryd.prog 119 #[.slice A n c] w fun e w' => Below w.heap.size w w' ∧ e = .returned (.slice none 0 0) := by
  refine (first_any A c n l w hH hn hb hc hcm hl).mono ?_
  rintro e w' ⟨h1, h2⟩
  rw [ho] at h2
  exact ⟨h1, h2⟩
theorem frames_any (A : Option Addr) (c n : Nat) (w : World) :
    Calls Tryd.prog 94 #[.slice A n c] w fun e w' => e = .returned (.func (.func 118) #[] #[.pointer (some ⟨w.heap.size, 0, none⟩)]) ∧ w' = w.alloc (.cells #[.slice A n c] 36) := by
  go_enter Tryd.func94, Tryd.ntmps94
  go_wp2_with fail
  go_ret
  exact ⟨rfl, rfl⟩
/-- What is left of the slice: behind the first f bytes. -/
def restLen : Value → Nat
  | .slice _ n _ => n
  | _ => 0
def IterRel (l : List UInt8) (n₀ : Nat) (J : List (List UInt8) → Nat → World → Prop) (v : Value) (wr : World) : Prop :=
  ∃ (acc : List (List UInt8)) (a : Nat) (A : Option Addr) (n c : Nat), v = .slice A n c ∧ Fr.ScanTo l acc a ∧ (l.drop a).length = n ∧ BCells wr n₀ A (l.drop a) ∧ n ≤ c ∧ c ≤ 9223372036854775807 ∧ J acc a wr

set_option maxHeartbeats 4000000 in
theorem iter_in (k lp Bs n₀ : Nat) (A : Option Addr) (c n : Nat) (l : List UInt8) (W : World) (J : List (List UInt8) → Nat → World → Prop) (hk : 1 ≤ k)
    (hJ : ∀ acc a w w', J acc a w → Below w.heap.size w w' → J acc a w') (hJH : ∀ acc a w, J acc a w → Hs w) (hJB : ∀ acc a w, J acc a w → Below n₀ W w) (hn₀ : n₀ ≤ W.heap.size)
    (hY : ∀ acc a x g cf fl w0 w1, J acc a w0 → Below w0.heap.size w0 w1 → fl = 6 + x.length → Row w0.heap.size w1 (.slice (some ⟨g, 0, none⟩) fl cf) (Fr.frame x) → Fr.ok x = true → a + fl ≤ l.length →
      YieldAt Fence.wide (k - 1) Tryd.prog lp #[.slice (some ⟨g, 0, none⟩) fl cf] w1 fun e w' => e = .returned (.bool true) ∧ J (acc ++ [x]) (a + fl) w' ∧ Below n₀ w1 w')
    (hBs : W.cell? ⟨Bs, 0, none⟩ = some (.slice A n c)) (hn : l.length = n) (hb : BCells W n₀ A l) (hc : n ≤ c) (hcm : c ≤ 9223372036854775807) (hl : n ≤ 16777216) (h0 : J [] 0 W) :
    CallsIn Fence.wide k Tryd.prog 118 #[.func (.yield lp) #[] #[], .pointer (some ⟨Bs, 0, none⟩)] W fun e w' => (∃ v, e = .returned v) ∧ ∃ acc a, Fr.scan l = (acc, a) ∧ J acc a w' := by
  have HB := Lib.hid hb
  have HN := Lib.hid hn
  clear hb hn
  refine callsIn_of_wp Tryd.func118 rfl trivial ?_ rfl
  simp only [Tryd.ntmps118, List.size_toArray, List.length_cons, List.length_nil, Nat.reduceAdd, Nat.reduceSub, Array.replicate_succ, Array.replicate_zero, List.push_toArray, List.append_toArray, List.nil_append, List.cons_append]
  gi_wp2
  gi_loopw [3] (fun v wr => IterRel l n₀ J v wr) (fun v _ => restLen v)
  case atStart => exact ⟨[], 0, A, n, c, rfl, Fr.ScanTo.start l, by rw [List.drop_zero]; exact HN.out, by rw [List.drop_zero]; exact HB.out, hc, hcm, h0⟩
  case round =>
    obtain ⟨acc, a, A', n', c', rfl, hsc, hn', hb', hc', hcm', hJr⟩ := hrel
    have hs' : n' ≤ 16777216 := by
      have := HN.out
      rw [List.length_drop] at hn'
      omega
    have hsz := (hJB _ _ _ hJr).size
    have hb'' := hb'.moreB (Nat.le_trans hn₀ hsz)
    have HSC := Lib.hid hsc
    cases ho : Fr.one (l.drop a) with
    | none =>
      have HF := Lib.hid (first_none (hJH _ _ _ hJr) hn' hb'' hc' hcm' hs' ho)
      have HS := Lib.hid (hsc.stop ho)
      have HJR := Lib.hid hJr
      have hE := eql_nil
      clear hsc hn' hb' hb'' hJr ho
      gi_wp2_with (refine ⟨trivial, ?_⟩; gi_at_call 119; refine (callsIn_wide.2 HF.out).mono ?_; rintro _ w2 ⟨hb2, rfl⟩)
      refine ⟨fun _ h => (by cases h), ?_⟩
      gi_wp2
      refine bodyPost_ret (results_none rfl _ _ _) rfl ?_
      exact ⟨⟨_, rfl⟩, acc, a, HS.out, hJ _ _ _ _ HJR.out hb2⟩
    | some q =>
      obtain ⟨x, r⟩ := q
      have hx := (Fr.one_is ho).1
      have hle := Fr.one_less ho
      obtain ⟨fl, hfl⟩ : ∃ fl, fl = 6 + x.length := ⟨_, rfl⟩
      have HF := Lib.hid (first_some (hJH _ _ _ hJr) hn' hb'' hc' hcm' hs' ho hfl)
      have hlt : fl ≤ n' := by omega
      have hr : r = l.drop (a + fl) := by
        have e := (Fr.one_is ho).2
        have e2 := congrArg (List.drop fl) e
        rw [List.drop_drop, hfl, ← Fr.frame_len, List.drop_left] at e2
        rw [hfl, ← Fr.frame_len]
        exact e2.symm
      have hal : a + fl ≤ l.length := by
        rw [List.length_drop] at hn'
        omega
      have HST : Hid (Fr.ScanTo l (acc ++ [x]) (a + fl)) := Lib.hid (hsc.step (by rw [ho, hr]) (by omega) hal)
      have hpos : 0 < fl := by omega
      have HJR := Lib.hid hJr
      have HX := Lib.hid (And.intro hx (And.intro hfl hal))
      have HB2 := Lib.hid hb'
      have HNN := Lib.hid hn'
      obtain ⟨b0, o0, rfl, _, _⟩ := hb' (by omega)
      have hE := eql_some
      have i1 : (fl : Int) ≤ (n' : Int) := by omega
      have i2 : (0 : Int) ≤ (fl : Int) := by omega
      have i3 : (fl : Int) ≤ (c' : Int) := by omega
      have i4 : (n' : Int) ≤ (c' : Int) := by omega
      obtain ⟨nn, hnn⟩ : ∃ nn, n' - fl = nn := ⟨_, rfl⟩
      obtain ⟨cc, hcc⟩ : ∃ cc, c' - fl = cc := ⟨_, rfl⟩
      clear hsc hn' hb' hb'' hJr ho hx hle hfl hr hal
      gi_wp2_with (refine ⟨trivial, ?_⟩; gi_at_call 119; refine (callsIn_wide.2 HF.out).mono ?_; rintro _ w2 ⟨hb2, g, cf, rfl, hrow2⟩; have HYY := Lib.hid (hY acc a x g cf fl wr w2 HJR.out hb2 HX.out.2.1 hrow2 HX.out.1 HX.out.2.2); obtain ⟨fn, tmps, assign, body, hy, hR⟩ := HYY.out; clear HYY hrow2)
      refine hR.mono ?_
      rintro _ w3 ⟨rfl, hJ3, hB3⟩
      have HJ3 := Lib.hid hJ3
      have hcd : (l.drop (a + fl)).length = nn := by
        have := HNN.out
        have := HX.out.2.2
        rw [List.length_drop] at *
        omega
      have HCD := Lib.hid hcd
      have HBC : Hid (BCells w3 n₀ (some ⟨b0, o0 + fl, none⟩) (l.drop (a + fl))) := Lib.hid (by
        have h1 := ((HB2.out.keepB hb2 (Nat.le_trans hn₀ hsz)).keepB hB3 (Nat.le_refl _))
        have h2 := sub_cells (a := fl) (m := nn) h1
        rw [List.drop_drop] at h2
        rwa [List.take_of_length_le (by omega)] at h2)
      have HME : Hid (nn < n' ∧ nn ≤ cc ∧ cc ≤ 9223372036854775807) := Lib.hid (by omega)
      clear hJ3 hcd hR hy hE HF hb2 hB3
      by_cases hcf : c' = fl
      · have HZ : Hid (l.drop (a + fl) = []) := Lib.hid (List.length_eq_zero_iff.1 (by rw [HCD.out]; omega))
        have hn0 : n' = fl := by omega
        subst hcf
        subst hn0
        have HCN : Hid (nn = 0) := Lib.hid (by omega)
        clear hcc
        gi_wp2
        refine ⟨⟨_, _, _, nn, nn, rfl, HST.out, HCD.out, ?_, Nat.le_refl _, by have := HME.out; omega, HJ3.out⟩, HME.out.1⟩
        rw [HZ.out]
        exact fun h => absurd h (by simp)
      · have hn1 : ¬ c' ≤ fl := by omega
        have hn2 : (c' == fl) = false := by simp; omega
        have hn3 : ¬ cc = 0 := by omega
        have hn4 : 0 < cc := by omega
        gi_wp2
        exact ⟨⟨_, _, _, nn, cc, rfl, HST.out, HCD.out, HBC.out, HME.out.2.1, HME.out.2.2, HJ3.out⟩, HME.out.1⟩
end Go.Proofs.YtkmljbbnpjlehaaDoor
namespace Go.Proofs.YtkmljbbnpjlehaaDoor
set_option maxRecDepth 8000
open Go.RowKit

theorem LRow.far {base : Nat} {w w' : World} {A : Option Addr} {n c : Nat} {l : List (List UInt8)} {cs : List Value} (h : LRow base w A n c l cs) (hf : ∀ b, base ≤ b → w'.heap[b]? = w.heap[b]?) (hz : w.heap.size ≤ w'.heap.size) : LRow base w' A n c l cs := by
  refine ⟨h.len, ⟨h.row.1, ?_⟩, fun k hk => ?_⟩
  · rcases h.row.2 with h1 | ⟨g, cap, cur, hv, hb, hg, hr⟩
    · exact .inl h1
    · exact .inr ⟨g, cap, cur, hv, hb, by rw [hf g hb]; exact hg, hr⟩
  · obtain ⟨Ak, ck, e1, e2, e3⟩ := h.el k hk
    exact ⟨Ak, ck, e1, cells_block e2 (fun b hb => hf b (e3 b hb).1) hz, fun b hb => ⟨(e3 b hb).1, Nat.lt_of_lt_of_le (e3 b hb).2.1 hz, (e3 b hb).2.2⟩⟩
theorem LRow.blk {base : Nat} {w : World} {A : Option Addr} {n c : Nat} {l : List (List UInt8)} {cs : List Value} (h : LRow base w A n c l cs) : ∀ b ∈ blkOf A, base ≤ b ∧ b < w.heap.size := fun b hb => by
  cases A with
  | none => simp [blkOf] at hb
  | some ad =>
    simp only [blkOf, List.mem_singleton] at hb
    have := World.ownsRow.lt h.row ad.block rfl
    rw [hb]
    exact this
theorem LRow.own {base : Nat} {w : World} {A : Option Addr} {n c : Nat} {l : List (List UInt8)} {cs : List Value} (h : LRow base w A n c l cs) : ∀ k, (Value.slice A n c).ownBlock = some k → base ≤ k ∧ k < w.heap.size := fun k hk => World.ownsRow.lt h.row k hk

/-- Scan's own state between two rounds: its two variables, what it has found, the loop's record, the block for deferred calls. -/
structure SJ (w0 W1 : World) (g1 g2 D lp base : Nat) (R : Loop) (acc : List (List UInt8)) (a : Nat) (W : World) : Prop where
  b0 : Below w0.heap.size w0 W
  b1 : Below w0.heap.size W1 W
  sz : base ≤ W.heap.size
  recs : ∃ A m c cs, Boxed W g1 37 (.slice A m c) ∧ m ≤ a ∧ LRow base W A m c acc cs
  num : Boxed W g2 3 (.int .i64 (a : Int))
  df : W.heap[D]? = some (.deferred (some []))
  lp : W.heap[lp]? = some (.loop R)
theorem block_keep {W W' : World} (hb : Below W.heap.size W W') {g : Nat} {o : Obj} (h : W.heap[g]? = some o) : W'.heap[g]? = some o := (hb.block g (Array.getElem?_eq_some_iff.1 h).1).trans h
theorem SJ.next {w0 W1 : World} {g1 g2 D lp base : Nat} {R : Loop} {acc : List (List UInt8)} {a : Nat} {W W' : World} (h : SJ w0 W1 g1 g2 D lp base R acc a W) (hb : Below W.heap.size W W') : SJ w0 W1 g1 g2 D lp base R acc a W' := by
  obtain ⟨A, m, c, cs, h1, h2, h3⟩ := h.recs
  have hs : w0.heap.size ≤ W.heap.size := h.b0.size
  exact ⟨h.b0.trans (hb.mono hs), h.b1.trans (hb.mono hs), Nat.le_trans h.sz hb.size, ⟨A, m, c, cs, block_keep hb h1, h2, h3.next hb⟩, block_keep hb h.num, block_keep hb h.df, block_keep hb h.lp⟩

/-- 'records = append(records, x)' at a step of a region that draws its order, within a round: the element lies in a block of its own, B. -/
theorem stepIn_push {lp k B base n : Nat} (W : World) {ops : Array Oper} {o : Oper} {a : Act} {K : Act → World → Prop} {Q : Exit → Act → World → Prop} {E : Prop} (s x : Operand) (v u : Value) (cs : List Value)
    (ho : o.op = .call { callee := .builtin .append, args := #[s, x], argTypes := #[37, 37] }) (hgd : o.guard = none) (hs : a.eval s = v) (hx : a.eval x = .slice (some ⟨B, 0, none⟩) 1 1)
    (hown : W.ownsRow base 36 1 v n cs) (hB : W.heap[B]? = some (.cells #[u] 36 (0, 0))) (hu : u.oneCell' = true) (hn : n ≤ 16777216) (hb : base ≤ W.heap.size)
    (hK : ∀ g cap W', W'.ownsRow base 36 1 (.slice (some ⟨g, 0, none⟩) (n + 1) cap) (n + 1) (cs ++ [u]) → W.grownBy W' v.ownBlock → (v.ownBlock = some g ∨ g = W.heap.size) → K (a.put o.dst (.slice (some ⟨g, 0, none⟩) (n + 1) cap)) W') :
    if Region.wanted o (yielded ops a.tmps) = true then Oper.wpIn (Fence.wide.inRound lp) k Tryd.prog o a W K Q else E := by
  obtain ⟨i0, hi, hz0, hz1, hz2⟩ := info_parts Tryd.infoBytes
  obtain ⟨g, cap, W', hr, h2, h3, h4, _⟩ := run_append_lies (P := Tryd.prog) W 37 o.type base 36 i0 _ 1 24 Tryd.underlying37 hi hz0 hz1 hz2 rfl (by omega) v n cs hown ⟨B, 0, none⟩ 1 1 [u] rfl (World.news_of_block (cs := #[u]) hB) (by simpa using hu) (by omega) (by unfold maxLen; omega) (by omega) hb W.heap.size rfl
  rw [if_pos (by simp [Region.wanted, hgd])]
  refine ⟨fun _ _ => trivial, ?_⟩
  rw [Oper.semAt_plain _ _ _ (by rw [ho]; intro c hc; cases hc)]
  simp [execOp, ho, resolve, invoke, builtin, hs, hx, hr, Result.andThen]
  exact hK g cap W' h2 h3 h4
end Go.Proofs.YtkmljbbnpjlehaaDoor
