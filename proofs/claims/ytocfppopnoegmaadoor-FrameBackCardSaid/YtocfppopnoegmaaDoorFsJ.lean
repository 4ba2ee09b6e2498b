/- What a round of the program's own Scan keeps of its state, step by step; an append at a step of a region that draws, within a round. No condition. -/
import Derived.Test.YtocfppopnoegmaaDoorFsI
import Derived.RangeFuncBox
import Derived.RangeFuncFrom
namespace Go.Proofs.YtocfppopnoegmaaDoor
set_option maxRecDepth 8000
open Go.RowKit

theorem LRow.far {base : Nat} {w w' : World} {A : Option Addr} {n c : Nat} {l : List (List UInt8)} {cs : List Value} (h : LRow base w A n c l cs) (hf : ∀ b, base ≤ b → w'.heap[b]? = w.heap[b]?) (hz : w.heap.size ≤ w'.heap.size) : LRow base w' A n c l cs := by
  refine ⟨h.len, ⟨h.row.1, ?_⟩, fun k hk => ?_⟩
  · rcases h.row.2 with h1 | ⟨g, cap, cur, hv, hb, hg, hr⟩
    · exact .inl h1
    · exact .inr ⟨g, cap, cur, hv, hb, by rw [hf g hb]; exact hg, hr⟩
  · obtain ⟨Ak, ck, e1, e2, e3⟩ := h.el k hk
    exact ⟨Ak, ck, e1, cells_block e2 (fun b hb => hf b (e3 b hb).1) hz, fun b hb => ⟨(e3 b hb).1, Nat.lt_of_lt_of_le (e3 b hb).2.1 hz, (e3 b hb).2.2⟩⟩
theorem LRow.blk {base : Nat} {w : World} {A : Option Addr} {n c : Nat} {l : List (List UInt8)} {cs : List Value} (h : LRow base w A n c l cs) : ∀ b ∈ blkOf A, base ≤ b ∧ b < w.heap.size := fun b hb => by
  cases A with
  | none => simp [blkOf] at hb
  | some ad =>
    simp only [blkOf, List.mem_singleton] at hb
    have := World.ownsRow.lt h.row ad.block rfl
    rw [hb]
    exact this
theorem LRow.own {base : Nat} {w : World} {A : Option Addr} {n c : Nat} {l : List (List UInt8)} {cs : List Value} (h : LRow base w A n c l cs) : ∀ k, (Value.slice A n c).ownBlock = some k → base ≤ k ∧ k < w.heap.size := fun k hk => World.ownsRow.lt h.row k hk

/-- Scan's own state between two rounds: its two variables, what it has found, the loop's record, the block for deferred calls. -/
structure SJ (w0 W1 : World) (g1 g2 D lp base : Nat) (R : Loop) (acc : List (List UInt8)) (a : Nat) (W : World) : Prop where
  b0 : Below w0.heap.size w0 W
  b1 : Below w0.heap.size W1 W
  sz : base ≤ W.heap.size
  recs : ∃ A m c cs, Boxed W g1 23 (.slice A m c) ∧ m ≤ a ∧ LRow base W A m c acc cs
  num : Boxed W g2 3 (.int .i64 (a : Int))
  df : W.heap[D]? = some (.deferred (some []))
  lp : W.heap[lp]? = some (.loop R)
theorem block_keep {W W' : World} (hb : Below W.heap.size W W') {g : Nat} {o : Obj} (h : W.heap[g]? = some o) : W'.heap[g]? = some o := (hb.block g (Array.getElem?_eq_some_iff.1 h).1).trans h
theorem SJ.next {w0 W1 : World} {g1 g2 D lp base : Nat} {R : Loop} {acc : List (List UInt8)} {a : Nat} {W W' : World} (h : SJ w0 W1 g1 g2 D lp base R acc a W) (hb : Below W.heap.size W W') : SJ w0 W1 g1 g2 D lp base R acc a W' := by
  obtain ⟨A, m, c, cs, h1, h2, h3⟩ := h.recs
  have hs : w0.heap.size ≤ W.heap.size := h.b0.size
  exact ⟨h.b0.trans (hb.mono hs), h.b1.trans (hb.mono hs), Nat.le_trans h.sz hb.size, ⟨A, m, c, cs, block_keep hb h1, h2, h3.next hb⟩, block_keep hb h.num, block_keep hb h.df, block_keep hb h.lp⟩

/-- 'records = append(records, x)' at a step of a region that draws its order, within a round: the element lies in a block of its own, B. -/
theorem stepIn_push {lp k B base n : Nat} (W : World) {ops : Array Oper} {o : Oper} {a : Act} {K : Act → World → Prop} {Q : Exit → Act → World → Prop} {E : Prop} (s x : Operand) (v u : Value) (cs : List Value)
    (ho : o.op = .call { callee := .builtin .append, args := #[s, x], argTypes := #[23, 23] }) (hgd : o.guard = none) (hs : a.eval s = v) (hx : a.eval x = .slice (some ⟨B, 0, none⟩) 1 1)
    (hown : W.ownsRow base 22 1 v n cs) (hB : W.heap[B]? = some (.cells #[u] 22 (0, 0))) (hu : u.oneCell' = true) (hn : n ≤ 16777216) (hb : base ≤ W.heap.size)
    (hK : ∀ g cap W', W'.ownsRow base 22 1 (.slice (some ⟨g, 0, none⟩) (n + 1) cap) (n + 1) (cs ++ [u]) → W.grownBy W' v.ownBlock → (v.ownBlock = some g ∨ g = W.heap.size) → K (a.put o.dst (.slice (some ⟨g, 0, none⟩) (n + 1) cap)) W') :
    if Region.wanted o (yielded ops a.tmps) = true then Oper.wpIn (Fence.wide.inRound lp) k Tryd.prog o a W K Q else E := by
  obtain ⟨i0, hi, hz0, hz1, hz2⟩ := info_parts Tryd.infoBytes
  obtain ⟨g, cap, W', hr, h2, h3, h4, _⟩ := run_append_lies (P := Tryd.prog) W 23 o.type base 22 i0 _ 1 24 Tryd.underlying23 hi hz0 hz1 hz2 rfl (by omega) v n cs hown ⟨B, 0, none⟩ 1 1 [u] rfl (World.news_of_block (cs := #[u]) hB) (by simpa using hu) (by omega) (by unfold maxLen; omega) (by omega) hb W.heap.size rfl
  rw [if_pos (by simp [Region.wanted, hgd])]
  refine ⟨fun _ _ => trivial, ?_⟩
  rw [Oper.semAt_plain _ _ _ (by rw [ho]; intro c hc; cases hc)]
  simp [execOp, ho, resolve, invoke, builtin, hs, hx, hr, Result.andThen]
  exact hK g cap W' h2 h3 h4
end Go.Proofs.YtocfppopnoegmaaDoor
