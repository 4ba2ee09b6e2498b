/- Lists of bytes in blocks of a kind: what is done to other blocks leaves them; a list copied, and one element more. No condition. What an Append or a Replace leaves that fails by a fault alone, and what two logs answer that are one but for what their disks keep, plain. No program stands in it. No condition. -/
import Derived.Test.YtkmljbbnpjlehaaDoorMg38
import Derived.Test.YtkmljbbnpjlehaaDoorMg37
namespace Go.Proofs.YtkmljbbnpjlehaaDoor
set_option maxRecDepth 8000
open Go.RowKit

/-- Bytes in blocks of a kind. -/
def BP (P : Nat → Prop) (w : World) (A : Option Addr) (l : List UInt8) : Prop :=
  0 < l.length → ∃ b off, A = some ⟨b, off, none⟩ ∧ P b ∧ b < w.heap.size ∧ ∀ k (h : k < l.length), w.cell? ⟨b, off + k, none⟩ = some (B l[k])
/-- A list of them. -/
def LP (P : Nat → Prop) (w : World) (A : Option Addr) (l : List (List UInt8)) : Prop :=
  0 < l.length → ∃ b off, A = some ⟨b, off, none⟩ ∧ P b ∧ b < w.heap.size ∧ ∀ k (h : k < l.length), ∃ Ak ck, w.cell? ⟨b, off + k, none⟩ = some (.slice Ak l[k].length ck) ∧ BP P w Ak l[k]
section
variable {P : Nat → Prop} {w w' : World}
theorem BP.keep {A : Option Addr} {l : List UInt8} (h : BP P w A l) (hs : ∀ b, P b → b < w.heap.size → w'.heap[b]? = w.heap[b]?) (hz : w.heap.size ≤ w'.heap.size) : BP P w' A l := fun hn => by
  obtain ⟨b, off, e, hp, hlt, hc⟩ := h hn
  exact ⟨b, off, e, hp, Nat.lt_of_lt_of_le hlt hz, fun k hk => (World.cell?_of_block (hs b hp hlt)).trans (hc k hk)⟩
theorem LP.keep {A : Option Addr} {l : List (List UInt8)} (h : LP P w A l) (hs : ∀ b, P b → b < w.heap.size → w'.heap[b]? = w.heap[b]?) (hz : w.heap.size ≤ w'.heap.size) : LP P w' A l := fun hn => by
  obtain ⟨b, off, e, hp, hlt, hc⟩ := h hn
  refine ⟨b, off, e, hp, Nat.lt_of_lt_of_le hlt hz, fun k hk => ?_⟩
  obtain ⟨Ak, ck, h1, h2⟩ := hc k hk
  exact ⟨Ak, ck, (World.cell?_of_block (hs b hp hlt)).trans h1, h2.keep hs hz⟩
theorem BP.next {A : Option Addr} {l : List UInt8} (h : BP P w A l) (hb : Below w.heap.size w w') : BP P w' A l := h.keep (fun b _ hlt => hb.block b hlt) hb.size
theorem LP.next {A : Option Addr} {l : List (List UInt8)} (h : LP P w A l) (hb : Below w.heap.size w w') : LP P w' A l := h.keep (fun b _ hlt => hb.block b hlt) hb.size
theorem BP.bc {A : Option Addr} {l : List UInt8} (h : BP P w A l) : BCells w w.heap.size A l := fun hn => by
  obtain ⟨b, off, e, _, hlt, hc⟩ := h hn
  exact ⟨b, off, e, hlt, hc⟩
theorem LP.lc {A : Option Addr} {l : List (List UInt8)} (h : LP P w A l) : LC w w.heap.size A l := fun hn => by
  obtain ⟨b, off, e, _, hlt, hc⟩ := h hn
  refine ⟨b, off, e, hlt, fun k hk => ?_⟩
  obtain ⟨Ak, ck, h1, h2⟩ := hc k hk
  exact ⟨Ak, ck, h1, h2.bc⟩
theorem BCells.bp {bd : Nat} {A : Option Addr} {l : List UInt8} (h : BCells w bd A l) (hP : ∀ b, b < bd → P b) (hz : bd ≤ w.heap.size) : BP P w A l := fun hn => by
  obtain ⟨b, off, e, hlt, hc⟩ := h hn
  exact ⟨b, off, e, hP b hlt, Nat.lt_of_lt_of_le hlt hz, hc⟩
theorem LC.lp {bd : Nat} {A : Option Addr} {l : List (List UInt8)} (h : LC w bd A l) (hP : ∀ b, b < bd → P b) (hz : bd ≤ w.heap.size) : LP P w A l := fun hn => by
  obtain ⟨b, off, e, hlt, hc⟩ := h hn
  refine ⟨b, off, e, hP b hlt, Nat.lt_of_lt_of_le hlt hz, fun k hk => ?_⟩
  obtain ⟨Ak, ck, h1, h2⟩ := hc k hk
  exact ⟨Ak, ck, h1, h2.bp hP hz⟩
end
/-- A list's own row; what its elements are lies in blocks of a kind. -/
structure NRow (P : Nat → Prop) (base : Nat) (w : World) (A : Option Addr) (n c : Nat) (l : List (List UInt8)) (cs : List Value) : Prop where
  len : l.length = n
  row : w.ownsRow base 36 1 (.slice A n c) n cs
  el : ∀ k (hk : k < l.length), ∃ Ak ck, cs[k]? = some (.slice Ak l[k].length ck) ∧ BP P w Ak l[k]
section
variable {P : Nat → Prop} {base : Nat} {w w' : World} {A : Option Addr} {n c : Nat} {l : List (List UInt8)} {cs : List Value}
theorem LRow.nrow (h : LRow base w A n c l cs) (hP : ∀ b, base ≤ b → b < w.heap.size → P b) : NRow P base w A n c l cs := ⟨h.len.symm, h.row, fun k hk => by
  obtain ⟨Ak, ck, e1, e2, e3⟩ := h.el k hk
  refine ⟨Ak, ck, e1, fun hn => ?_⟩
  obtain ⟨b, off, rfl, hlt, hc⟩ := e2 hn
  have hb := e3 b (by simp [blkOf])
  exact ⟨b, off, rfl, hP b hb.1 hb.2.1, hlt, hc⟩⟩
theorem NRow.lp (h : NRow P base w A n c l cs) (hP : ∀ b, base ≤ b → b < w.heap.size → P b) : LP P w A l := fun hn => by
  obtain ⟨g, cap, hv, hbg, hlt⟩ := World.ownsRow.form h.row (by have := h.len; omega)
  injection hv with hA _ _
  subst hA
  refine ⟨g, 0, rfl, hP g hbg hlt, hlt, fun k hk => ?_⟩
  obtain ⟨Ak, ck, e1, e2⟩ := h.el k hk
  have := h.row.cells (g := g) rfl k _ e1
  rw [Addr.add_mid] at this
  exact ⟨Ak, ck, this, e2⟩
theorem NRow.one (h : NRow P base w A n c l cs) : ∀ u ∈ cs, u.oneCell' = true := fun u hu => by
  obtain ⟨k, hk, rfl⟩ := List.mem_iff_getElem.1 hu
  have h1 : cs.length = n := by have := h.row.1; omega
  obtain ⟨Ak, ck, e1, _⟩ := h.el k (by have := h.len; omega)
  rw [List.getElem?_eq_getElem hk, Option.some.injEq] at e1
  rw [e1]
  rfl
end
theorem grown_block {w w' : World} {o : Option Nat} (h : w.grownBy w' o) {b : Nat} (hb : b < w.heap.size) (hne : o ≠ some b) : w'.heap[b]? = w.heap[b]? := h.block b hb (fun e => hne e.symm)

theorem Wl.replace_st (d : Dk.D) (l : Wl.L) (all : List (List UInt8)) (hn : d.n ≤ 512) : (Wl.replace d l all).2.1.st.length ≤ d.st.length + 1000 := by
  unfold Wl.replace
  split
  · show d.st.length ≤ _
    omega
  · exact Wl.keep_st _ _ _ _ _ hn
/-- append([][]byte{}, was...). -/
theorem step_list_copy {W : World} {ops : Array Oper} {o : Oper} {a : Act} {K : Act → World → Prop} {Q : Exit → Act → World → Prop} {E : Prop} (hgd : o.guard = none) (s x : Operand) (base base' G : Nat) (A : Option Addr) (n c : Nat) (cs : List Value)
    (ho : o.op = .call { callee := .builtin .append, args := #[s, x], argTypes := #[37, 37] }) (hs : a.eval s = .slice (some ⟨G, 0, none⟩) 0 0) (hx : a.eval x = .slice A n c)
    (hG : W.heap[G]? = some (.cells #[] 36 (0, 0))) (hbG : base ≤ G) (hrow : W.ownsRow base' 36 1 (.slice A n c) n cs) (h1 : ∀ u ∈ cs, u.oneCell' = true) (hn : n ≤ 16777216) (hb : base ≤ W.heap.size)
    (hK : ∀ g cap W', W'.ownsRow base 36 1 (.slice (some ⟨g, 0, none⟩) n cap) n cs → W.grownBy W' (some G) → Below base W W' → K (a.put o.dst (.slice (some ⟨g, 0, none⟩) n cap)) W') :
    if Region.wanted o (yielded ops a.tmps) = true then Oper.wp Tryd.prog o a W K Q else E := by
  rw [if_pos (by simp [Region.wanted, hgd])]
  obtain ⟨i0, hi, hz0, hz1, hz2⟩ := info_parts Tryd.infoBytes
  have hGlt : G < W.heap.size := (Array.getElem?_eq_some_iff.1 hG).1
  have hown : W.ownsRow base 36 1 (.slice (some ⟨G, 0, none⟩) 0 0) 0 [] := ⟨rfl, .inr ⟨G, 0, #[], rfl, hbG, hG, Nat.le_refl _, Nat.zero_le _, rfl, rfl⟩⟩
  have hmain : ∃ g cap W', (Builtin.append_ #[37, 37] o.type #[.slice (some ⟨G, 0, none⟩) 0 0, .slice A n c]).run Tryd.prog W = .ok (.slice (some ⟨g, 0, none⟩) n cap) W' ∧ W'.ownsRow base 36 1 (.slice (some ⟨g, 0, none⟩) n cap) n cs ∧ W.grownBy W' (some G) ∧ (g = G ∨ g = W.heap.size) := by
    rcases hrow.2 with ⟨hv, h0⟩ | ⟨g0, cap0, cur, hv, hbg, hg, hnc, hcm, hcs, htake⟩
    · injection hv with e1 _ e2
      subst e1 e2 h0
      have hcs0 : cs = [] := List.eq_nil_of_length_eq_zero (by simpa using hrow.1)
      subst hcs0
      refine ⟨G, 0, W, ?_, hown, World.grownBy.refl _ _, .inl rfl⟩
      simp [Builtin.append_, run_underlying Tryd.underlying37, sizeOf, typeInfo, hi, Builtin.lenOf, Builtin.firstCells, loadCells, loadCellsFrom, storeCells]
    · injection hv with e1 _ e2
      subst e1 e2
      obtain ⟨v', W', hr, h2, h3, h4, h5⟩ := run_append_own_at (P := Tryd.prog) W base 37 o.type 36 i0 _ 1 24 Tryd.underlying37 hi hz0 hz1 hz2 rfl (by omega) _ 0 [] hown ⟨g0, 0, none⟩ n c cs (by rw [hrow.1]) (fun j u hu => hrow.cells (g := g0) rfl j u hu) h1 (by unfold maxLen; omega) (by omega) hb
      rw [Nat.zero_add, List.nil_append] at h2
      rcases h2.2 with ⟨e, _⟩ | ⟨g, cap, _, e, hb2, hg2, _⟩
      · exact absurd (h4.1 e).1 (by simp)
      · subst e
        refine ⟨g, cap, W', hr, h2, h3, ?_⟩
        rcases h5 with h5 | h5
        · left; simpa [Value.ownBlock] using h5
        · right; simpa [Value.ownBlock] using h5
  obtain ⟨g, cap, W', hr, h2, h3, h4⟩ := hmain
  unfold Oper.wp execOp
  simp only [ho, resolve, invoke, builtin, Sem.run_bind, Sem.run_pure, Result.andThen_ok, List.map_toArray, List.map_cons, List.map_nil, hs, hx, hr]
  exact hK g cap W' h2 h3 ((Below.refl _ _).grown h3 hb (fun k hk => by have := Option.some.inj hk; omega))
/-- append(l, x). -/
theorem step_pushN {W : World} {ops : Array Oper} {o : Oper} {a : Act} {K : Act → World → Prop} {Q : Exit → Act → World → Prop} {E : Prop} (hgd : o.guard = none) (s x : Operand) (base B : Nat) (v u : Value) (n : Nat) (cs : List Value)
    (ho : o.op = .call { callee := .builtin .append, args := #[s, x], argTypes := #[37, 37] }) (hs : a.eval s = v) (hx : a.eval x = .slice (some ⟨B, 0, none⟩) 1 1)
    (hown : W.ownsRow base 36 1 v n cs) (hB : W.heap[B]? = some (.cells #[u] 36 (0, 0))) (hu : u.oneCell' = true) (hn : n ≤ 16777216) (hb : base ≤ W.heap.size)
    (hK : ∀ g cap W', W'.ownsRow base 36 1 (.slice (some ⟨g, 0, none⟩) (n + 1) cap) (n + 1) (cs ++ [u]) → Below base W W' → K (a.put o.dst (.slice (some ⟨g, 0, none⟩) (n + 1) cap)) W') :
    if Region.wanted o (yielded ops a.tmps) = true then Oper.wp Tryd.prog o a W K Q else E := by
  rw [if_pos (by simp [Region.wanted, hgd])]
  obtain ⟨i0, hi, hz0, hz1, hz2⟩ := info_parts Tryd.infoBytes
  obtain ⟨g, cap, W', hr, h2, h3, h4, _⟩ := run_append_lies (P := Tryd.prog) W 37 o.type base 36 i0 _ 1 24 Tryd.underlying37 hi hz0 hz1 hz2 rfl (by omega) v n cs hown ⟨B, 0, none⟩ 1 1 [u] rfl (World.news_of_block (cs := #[u]) hB) (by simpa using hu) (by omega) (by unfold maxLen; omega) (by omega) hb W.heap.size rfl
  unfold Oper.wp execOp
  simp only [ho, resolve, invoke, builtin, Sem.run_bind, Sem.run_pure, Result.andThen_ok, List.map_toArray, List.map_cons, List.map_nil, hs, hx, hr]
  exact hK g cap W' h2 ((Below.refl _ _).grown h3 hb (fun k hk => (World.ownsRow.lt hown k hk).1))
theorem allocAt {w : World} {o : Obj} {n : Nat} (h : n = w.heap.size) : (w.alloc o).heap[n]? = some o := by rw [h]; exact heap_alloc_new w o
theorem allocAt2 {w : World} {o o' : Obj} {n : Nat} (h : n = w.heap.size) : ((w.alloc o).alloc o').heap[n]? = some o := (heap_alloc_old (w.alloc o) o' (by rw [h]; simp)).trans (allocAt h)
theorem NRow.snoc {P : Nat → Prop} {base base' : Nat} {w w' : World} {A : Option Addr} {n c g cap : Nat} {l : List (List UInt8)} {cs : List Value} {Ax : Option Addr} {nx cx : Nat} {x : List UInt8} (h : NRow P base w A n c l cs) (hb : Below w.heap.size w w') (hn : nx = x.length) (hx : BP P w' Ax x)
    (hown : w'.ownsRow base' 36 1 (.slice (some ⟨g, 0, none⟩) (n + 1) cap) (n + 1) (cs ++ [.slice Ax nx cx])) : NRow P base' w' (some ⟨g, 0, none⟩) (n + 1) cap (l ++ [x]) (cs ++ [.slice Ax nx cx]) := by
  subst hn
  have hl := h.len
  have hcs : cs.length = n := by have := h.row.1; omega
  refine ⟨by rw [List.length_append, List.length_singleton, hl], hown, fun k hk => ?_⟩
  by_cases hkl : k < l.length
  · obtain ⟨Ak, ck, e1, e2⟩ := h.el k hkl
    refine ⟨Ak, ck, ?_, ?_⟩
    · rw [List.getElem?_append_left (by omega), e1, List.getElem_append_left hkl]
    · rw [List.getElem_append_left hkl]
      exact e2.next hb
  · have hke : k = l.length := by rw [List.length_append, List.length_singleton] at hk; omega
    subst hke
    refine ⟨Ax, cx, ?_, ?_⟩
    · rw [List.getElem?_append_right (by omega)]
      simp [hl, hcs]
    · simp only [List.getElem_concat_length]
      exact hx
end Go.Proofs.YtkmljbbnpjlehaaDoor
namespace Go.Proofs.YtkmljbbnpjlehaaDoor
set_option maxRecDepth 8000
namespace Wl
open Dk (D)

theorem asked_left {d : D} (h : d.left < 0) : d.asked.left < 0 := by
  unfold Dk.D.asked
  rw [if_neg (by omega)]
  show Dk.tick d.left < 0
  unfold Dk.tick
  rw [if_neg (by omega)]
  exact h
theorem call_left {d : D} (h : d.left < 0) (c : C) : (call d c).left < 0 := by
  cases c with
  | wr i b =>
    show (d.write (i : Int) b).left < 0
    unfold Dk.D.write
    split
    · exact h
    · split
      · exact h
      · split
        · exact asked_left h
        · exact asked_left h
  | sync =>
    show d.sync.left < 0
    unfold Dk.D.sync
    split
    · exact asked_left h
    · exact asked_left h
theorem run_left : ∀ (cs : List C) {d : D}, d.left < 0 → (runC d cs).1.left < 0
  | [], _, h => h
  | c :: r, d, h => by
    show (if callE d c = 0 then runC (call d c) r else (call d c, false)).1.left < 0
    split
    · exact run_left r (call_left h c)
    · exact call_left h c
theorem keep_left {d : D} (h : d.left < 0) (l : L) (a f : Nat) (fr : Bytes) : (keep d l a f fr).2.1.left < 0 ∧ ((keep d l a f fr).1 = 21 → (keep d l a f fr).2.1.st = []) := by
  unfold keep
  split
  · exact ⟨h, fun e => by simp at e⟩
  · have hr := run_left (keepC d.n a f fr (l.gen + 1)) h
    dsimp only
    split
    · exact ⟨hr, fun e => by simp at e⟩
    · show (runC d _).1.drop.left < 0 ∧ (_ → (runC d _).1.drop.st = [])
      unfold Dk.D.drop
      rw [if_neg (by omega)]
      exact ⟨hr, fun _ => rfl⟩
theorem append_left {d : D} (h : d.left < 0) (l : L) (b : Bytes) : (append d l b).2.1.left < 0 ∧ ((append d l b).1 = 21 → d.st = [] → (append d l b).2.1.st = []) := by
  unfold append
  split
  · exact ⟨h, fun _ hs => hs⟩
  · exact ⟨(keep_left h _ _ _ _).1, fun e _ => (keep_left h _ _ _ _).2 e⟩
theorem replace_left {d : D} (h : d.left < 0) (l : L) (all : List Bytes) : (replace d l all).2.1.left < 0 ∧ ((replace d l all).1 = 21 → d.st = [] → (replace d l all).2.1.st = []) := by
  unfold replace
  split
  · exact ⟨h, fun _ hs => hs⟩
  · exact ⟨(keep_left h _ _ _ _).1, fun e _ => (keep_left h _ _ _ _).2 e⟩
/-- An Append or a Replace. -/
def doP (d : D) (l : L) (x : Int) (b : Bytes) (all : List Bytes) : Int × D × L := if x = 1 then append d l b else replace d l all
theorem Good.kept {c n : Nat} {d : D} {l : L} (h : Good c n (d, l)) (hc : c ≤ 32) (p : List Bool) (x : Int) (b : Bytes) (all : List Bytes) :
    (∃ e : Nat, (e = 1 ∨ e = 2) ∧ doP { d with plan := p } l x b all = ((e : Int), { d with plan := p }, l)) ∨ ∃ after, Kept c n { d with plan := p } l after (doP { d with plan := p } l x b all) := by
  unfold doP
  have hi : Inv c n ({ d with plan := p } : D).kept l := h.inv
  split
  · rcases hi.append hc h.dn h.st b with he | hk
    · exact .inl he
    · exact .inr ⟨_, hk⟩
  · rcases hi.replace hc h.dn h.st all with he | hk
    · exact .inl he
    · exact .inr ⟨_, hk⟩
theorem doP_left {d : D} (h : d.left < 0) (l : L) (x : Int) (b : Bytes) (all : List Bytes) : (doP d l x b all).2.1.left < 0 ∧ ((doP d l x b all).1 = 21 → d.st = [] → (doP d l x b all).2.1.st = []) := by
  unfold doP
  split
  · exact append_left h l b
  · exact replace_left h l all
theorem Good.fails {c n : Nat} {d : D} {l : L} (h : Good c n (d, l)) (hc : c ≤ 32) (p : List Bool) (x : Int) (b : Bytes) (all : List Bytes) (h0 : (doP { d with plan := p } l x b all).1 ≠ 0) :
    (doP { d with plan := p } l x b all).2.2 = l ∧ Good c n ({ (doP { d with plan := p } l x b all).2.1 with plan := [] }, l) := by
  have hlt : ({ d with plan := p } : D).left < 0 := h.fresh.1
  obtain ⟨h1, h2⟩ := doP_left hlt l x b all
  rcases h.kept hc p x b all with ⟨e, _, hr⟩ | ⟨after, hk⟩
  · rw [hr]
    exact ⟨rfl, h.inv, h.dn, h.st, ⟨h.fresh.1, rfl⟩⟩
  · rcases hk.kinds with e0 | e5 | e21
    · exact absurd e0 h0
    · obtain ⟨g1, g2⟩ := hk.full e5
      exact ⟨g2, by rw [g1]; exact h.inv, by rw [g1]; exact h.dn, by rw [g1]; exact h.st, ⟨h1, rfl⟩⟩
    · obtain ⟨g1, g2, g3, _⟩ := hk.bad e21
      have hs := h2 e21 h.st
      exact ⟨g1, g3 hs, g2, hs, ⟨h1, rfl⟩⟩
theorem Inv.keep_fresh {c n : Nat} {d : D} {l : L} (h : Inv c n d.kept l) (hn : d.n = n) (hF : Fresh d) {a f : Nat} {fr : Bytes} {after : List Bytes} (hk : Ask l a f fr after) :
    (Wl.keep d l a f fr).1 = (if areaBytes n < fr.length ∨ l.gen = 262143 then 5 else 0) ∧ (Wl.keep d l a f fr).2.2 = (if areaBytes n < fr.length ∨ l.gen = 262143 then l else ⟨l.gen + 1, a, fr⟩) := by
  unfold Wl.keep
  rw [hn]
  by_cases hf : areaBytes n < fr.length ∨ l.gen = 262143
  · rw [if_pos hf, if_pos hf, if_pos hf]
    exact ⟨rfl, rfl⟩
  · rw [if_neg hf, if_neg hf, if_neg hf]
    have hP := h.plan hk (by omega)
    have hr := (run_fresh _ d hF hn (hP.valid (l.gen + 1))).1
    dsimp only
    rw [if_pos hr]
    exact ⟨rfl, rfl⟩
/-- Two logs that are one, on two disks, answer alike. -/
theorem Good.twin {c n : Nat} {d d' : D} {l : L} (h : Good c n (d, l)) (h' : Good c n (d', l)) (x : Int) (b : Bytes) (all : List Bytes) :
    (doP d l x b all).1 = (doP d' l x b all).1 ∧ (doP d l x b all).2.2 = (doP d' l x b all).2.2 := by
  unfold doP
  split
  · unfold Wl.append
    cases hok : Fr.ok b with
    | true =>
      rw [Fr.put_ok hok]
      obtain ⟨e1, e2⟩ := h.inv.keep_fresh h.dn h.fresh (h.inv.ask_append hok)
      obtain ⟨g1, g2⟩ := h'.inv.keep_fresh h'.dn h'.fresh (h'.inv.ask_append hok)
      exact ⟨e1.trans g1.symm, e2.trans g2.symm⟩
    | false =>
      obtain ⟨e, _, hp⟩ := Fr.put_bad hok
      rw [hp]
      exact ⟨rfl, rfl⟩
  · unfold Wl.replace
    cases hok : all.all Fr.ok with
    | true =>
      rw [Fr.all_of_ok hok]
      obtain ⟨e1, e2⟩ := h.inv.keep_fresh h.dn h.fresh (h.inv.ask_replace hok)
      obtain ⟨g1, g2⟩ := h'.inv.keep_fresh h'.dn h'.fresh (h'.inv.ask_replace hok)
      exact ⟨e1.trans g1.symm, e2.trans g2.symm⟩
    | false =>
      obtain ⟨e, _, hp⟩ := Fr.all_bad hok
      rw [hp]
      exact ⟨rfl, rfl⟩
theorem Good.doP {c n : Nat} {d : D} {l : L} (h : Good c n (d, l)) (hc : c ≤ 32) (x : Int) (b : Bytes) (all : List Bytes) : Good c n (Wl.doP d l x b all).2 := by
  unfold Wl.doP
  split
  · rcases h.inv.append hc h.dn h.st b with ⟨e, _, hr⟩ | hk
    · rw [hr]; exact h
    · exact hk.good h
  · rcases h.inv.replace hc h.dn h.st all with ⟨e, _, hr⟩ | hk
    · rw [hr]; exact h
    · exact hk.good h
end Wl
end Go.Proofs.YtkmljbbnpjlehaaDoor
