/- Lists of bytes in blocks of a kind: what is done to other blocks leaves them; a list copied, and one element more. No condition. One thing that is done, ahead of others, in a list of its own: append([]Op{o}, l...). No condition. -/
import Derived.Test.YtkmljbbnpjlehaaDoorMg38
import Derived.Test.YtkmljbbnpjlehaaDoorMg37
import Derived.Test.YtkmljbbnpjlehaaDoorMg34
namespace Go.Proofs.YtkmljbbnpjlehaaDoor
set_option maxRecDepth 8000
open Go.RowKit

/-- Bytes in blocks of a kind. -/
def BP (P : Nat → Prop) (w : World) (A : Option Addr) (l : List UInt8) : Prop :=
  0 < l.length → ∃ b off, A = some ⟨b, off, none⟩ ∧ P b ∧ b < w.heap.size ∧ ∀ k (h : k < l.length), w.cell? ⟨b, off + k, none⟩ = some (B l[k])
/-- A list of them. -/
def LP (P : Nat → Prop) (w : World) (A : Option Addr) (l : List (List UInt8)) : Prop :=
  0 < l.length → ∃ b off, A = some ⟨b, off, none⟩ ∧ P b ∧ b < w.heap.size ∧ ∀ k (h : k < l.length), ∃ Ak ck, w.cell? ⟨b, off + k, none⟩ = some (.slice Ak l[k].length ck) ∧ BP P w Ak l[k]
section
variable {P : Nat → Prop} {w w' : World}
theorem BP.keep {A : Option Addr} {l : List UInt8} (h : BP P w A l) (hs : ∀ b, P b → b < w.heap.size → w'.heap[b]? = w.heap[b]?) (hz : w.heap.size ≤ w'.heap.size) : BP P w' A l := fun hn => by
  obtain ⟨b, off, e, hp, hlt, hc⟩ := h hn
  exact ⟨b, off, e, hp, Nat.lt_of_lt_of_le hlt hz, fun k hk => (World.cell?_of_block (hs b hp hlt)).trans (hc k hk)⟩
theorem LP.keep {A : Option Addr} {l : List (List UInt8)} (h : LP P w A l) (hs : ∀ b, P b → b < w.heap.size → w'.heap[b]? = w.heap[b]?) (hz : w.heap.size ≤ w'.heap.size) : LP P w' A l := fun hn => by
  obtain ⟨b, off, e, hp, hlt, hc⟩ := h hn
  refine ⟨b, off, e, hp, Nat.lt_of_lt_of_le hlt hz, fun k hk => ?_⟩
  obtain ⟨Ak, ck, h1, h2⟩ := hc k hk
  exact ⟨Ak, ck, (World.cell?_of_block (hs b hp hlt)).trans h1, h2.keep hs hz⟩
theorem BP.next {A : Option Addr} {l : List UInt8} (h : BP P w A l) (hb : Below w.heap.size w w') : BP P w' A l := h.keep (fun b _ hlt => hb.block b hlt) hb.size
theorem LP.next {A : Option Addr} {l : List (List UInt8)} (h : LP P w A l) (hb : Below w.heap.size w w') : LP P w' A l := h.keep (fun b _ hlt => hb.block b hlt) hb.size
theorem BP.bc {A : Option Addr} {l : List UInt8} (h : BP P w A l) : BCells w w.heap.size A l := fun hn => by
  obtain ⟨b, off, e, _, hlt, hc⟩ := h hn
  exact ⟨b, off, e, hlt, hc⟩
theorem LP.lc {A : Option Addr} {l : List (List UInt8)} (h : LP P w A l) : LC w w.heap.size A l := fun hn => by
  obtain ⟨b, off, e, _, hlt, hc⟩ := h hn
  refine ⟨b, off, e, hlt, fun k hk => ?_⟩
  obtain ⟨Ak, ck, h1, h2⟩ := hc k hk
  exact ⟨Ak, ck, h1, h2.bc⟩
theorem BCells.bp {bd : Nat} {A : Option Addr} {l : List UInt8} (h : BCells w bd A l) (hP : ∀ b, b < bd → P b) (hz : bd ≤ w.heap.size) : BP P w A l := fun hn => by
  obtain ⟨b, off, e, hlt, hc⟩ := h hn
  exact ⟨b, off, e, hP b hlt, Nat.lt_of_lt_of_le hlt hz, hc⟩
theorem LC.lp {bd : Nat} {A : Option Addr} {l : List (List UInt8)} (h : LC w bd A l) (hP : ∀ b, b < bd → P b) (hz : bd ≤ w.heap.size) : LP P w A l := fun hn => by
  obtain ⟨b, off, e, hlt, hc⟩ := h hn
  refine ⟨b, off, e, hP b hlt, Nat.lt_of_lt_of_le hlt hz, fun k hk => ?_⟩
  obtain ⟨Ak, ck, h1, h2⟩ := hc k hk
  exact ⟨Ak, ck, h1, h2.bp hP hz⟩
end
/-- A list's own row; what its elements are lies in blocks of a kind. -/
structure NRow (P : Nat → Prop) (base : Nat) (w : World) (A : Option Addr) (n c : Nat) (l : List (List UInt8)) (cs : List Value) : Prop where
  len : l.length = n
  row : w.ownsRow base 36 1 (.slice A n c) n cs
  el : ∀ k (hk : k < l.length), ∃ Ak ck, cs[k]? = some (.slice Ak l[k].length ck) ∧ BP P w Ak l[k]
section
variable {P : Nat → Prop} {base : Nat} {w w' : World} {A : Option Addr} {n c : Nat} {l : List (List UInt8)} {cs : List Value}
theorem LRow.nrow (h : LRow base w A n c l cs) (hP : ∀ b, base ≤ b → b < w.heap.size → P b) : NRow P base w A n c l cs := ⟨h.len.symm, h.row, fun k hk => by
  obtain ⟨Ak, ck, e1, e2, e3⟩ := h.el k hk
  refine ⟨Ak, ck, e1, fun hn => ?_⟩
  obtain ⟨b, off, rfl, hlt, hc⟩ := e2 hn
  have hb := e3 b (by simp [blkOf])
  exact ⟨b, off, rfl, hP b hb.1 hb.2.1, hlt, hc⟩⟩
theorem NRow.lp (h : NRow P base w A n c l cs) (hP : ∀ b, base ≤ b → b < w.heap.size → P b) : LP P w A l := fun hn => by
  obtain ⟨g, cap, hv, hbg, hlt⟩ := World.ownsRow.form h.row (by have := h.len; omega)
  injection hv with hA _ _
  subst hA
  refine ⟨g, 0, rfl, hP g hbg hlt, hlt, fun k hk => ?_⟩
  obtain ⟨Ak, ck, e1, e2⟩ := h.el k hk
  have := h.row.cells (g := g) rfl k _ e1
  rw [Addr.add_mid] at this
  exact ⟨Ak, ck, this, e2⟩
theorem NRow.one (h : NRow P base w A n c l cs) : ∀ u ∈ cs, u.oneCell' = true := fun u hu => by
  obtain ⟨k, hk, rfl⟩ := List.mem_iff_getElem.1 hu
  have h1 : cs.length = n := by have := h.row.1; omega
  obtain ⟨Ak, ck, e1, _⟩ := h.el k (by have := h.len; omega)
  rw [List.getElem?_eq_getElem hk, Option.some.injEq] at e1
  rw [e1]
  rfl
end
theorem grown_block {w w' : World} {o : Option Nat} (h : w.grownBy w' o) {b : Nat} (hb : b < w.heap.size) (hne : o ≠ some b) : w'.heap[b]? = w.heap[b]? := h.block b hb (fun e => hne e.symm)

theorem Wl.replace_st (d : Dk.D) (l : Wl.L) (all : List (List UInt8)) (hn : d.n ≤ 512) : (Wl.replace d l all).2.1.st.length ≤ d.st.length + 1000 := by
  unfold Wl.replace
  split
  · show d.st.length ≤ _
    omega
  · exact Wl.keep_st _ _ _ _ _ hn
/-- append([][]byte{}, was...). -/
theorem step_list_copy {W : World} {ops : Array Oper} {o : Oper} {a : Act} {K : Act → World → Prop} {Q : Exit → Act → World → Prop} {E : Prop} (hgd : o.guard = none) (s x : Operand) (base base' G : Nat) (A : Option Addr) (n c : Nat) (cs : List Value)
    (ho : o.op = .call { callee := .builtin .append, args := #[s, x], argTypes := #[37, 37] }) (hs : a.eval s = .slice (some ⟨G, 0, none⟩) 0 0) (hx : a.eval x = .slice A n c)
    (hG : W.heap[G]? = some (.cells #[] 36 (0, 0))) (hbG : base ≤ G) (hrow : W.ownsRow base' 36 1 (.slice A n c) n cs) (h1 : ∀ u ∈ cs, u.oneCell' = true) (hn : n ≤ 16777216) (hb : base ≤ W.heap.size)
    (hK : ∀ g cap W', W'.ownsRow base 36 1 (.slice (some ⟨g, 0, none⟩) n cap) n cs → W.grownBy W' (some G) → Below base W W' → K (a.put o.dst (.slice (some ⟨g, 0, none⟩) n cap)) W') :
    if Region.wanted o (yielded ops a.tmps) = true then Oper.wp Tryd.prog o a W K Q else E := by
  rw [if_pos (by simp [Region.wanted, hgd])]
  obtain ⟨i0, hi, hz0, hz1, hz2⟩ := info_parts Tryd.infoBytes
  have hGlt : G < W.heap.size := (Array.getElem?_eq_some_iff.1 hG).1
  have hown : W.ownsRow base 36 1 (.slice (some ⟨G, 0, none⟩) 0 0) 0 [] := ⟨rfl, .inr ⟨G, 0, #[], rfl, hbG, hG, Nat.le_refl _, Nat.zero_le _, rfl, rfl⟩⟩
  have hmain : ∃ g cap W', (Builtin.append_ #[37, 37] o.type #[.slice (some ⟨G, 0, none⟩) 0 0, .slice A n c]).run Tryd.prog W = .ok (.slice (some ⟨g, 0, none⟩) n cap) W' ∧ W'.ownsRow base 36 1 (.slice (some ⟨g, 0, none⟩) n cap) n cs ∧ W.grownBy W' (some G) ∧ (g = G ∨ g = W.heap.size) := by
    rcases hrow.2 with ⟨hv, h0⟩ | ⟨g0, cap0, cur, hv, hbg, hg, hnc, hcm, hcs, htake⟩
    · injection hv with e1 _ e2
      subst e1 e2 h0
      have hcs0 : cs = [] := List.eq_nil_of_length_eq_zero (by simpa using hrow.1)
      subst hcs0
      refine ⟨G, 0, W, ?_, hown, World.grownBy.refl _ _, .inl rfl⟩
      simp [Builtin.append_, run_underlying Tryd.underlying37, sizeOf, typeInfo, hi, Builtin.lenOf, Builtin.firstCells, loadCells, loadCellsFrom, storeCells]
    · injection hv with e1 _ e2
      subst e1 e2
      obtain ⟨v', W', hr, h2, h3, h4, h5⟩ := run_append_own_at (P := Tryd.prog) W base 37 o.type 36 i0 _ 1 24 Tryd.underlying37 hi hz0 hz1 hz2 rfl (by omega) _ 0 [] hown ⟨g0, 0, none⟩ n c cs (by rw [hrow.1]) (fun j u hu => hrow.cells (g := g0) rfl j u hu) h1 (by unfold maxLen; omega) (by omega) hb
      rw [Nat.zero_add, List.nil_append] at h2
      rcases h2.2 with ⟨e, _⟩ | ⟨g, cap, _, e, hb2, hg2, _⟩
      · exact absurd (h4.1 e).1 (by simp)
      · subst e
        refine ⟨g, cap, W', hr, h2, h3, ?_⟩
        rcases h5 with h5 | h5
        · left; simpa [Value.ownBlock] using h5
        · right; simpa [Value.ownBlock] using h5
  obtain ⟨g, cap, W', hr, h2, h3, h4⟩ := hmain
  unfold Oper.wp execOp
  simp only [ho, resolve, invoke, builtin, Sem.run_bind, Sem.run_pure, Result.andThen_ok, List.map_toArray, List.map_cons, List.map_nil, hs, hx, hr]
  exact hK g cap W' h2 h3 ((Below.refl _ _).grown h3 hb (fun k hk => by have := Option.some.inj hk; omega))
/-- append(l, x). -/
theorem step_pushN {W : World} {ops : Array Oper} {o : Oper} {a : Act} {K : Act → World → Prop} {Q : Exit → Act → World → Prop} {E : Prop} (hgd : o.guard = none) (s x : Operand) (base B : Nat) (v u : Value) (n : Nat) (cs : List Value)
    (ho : o.op = .call { callee := .builtin .append, args := #[s, x], argTypes := #[37, 37] }) (hs : a.eval s = v) (hx : a.eval x = .slice (some ⟨B, 0, none⟩) 1 1)
    (hown : W.ownsRow base 36 1 v n cs) (hB : W.heap[B]? = some (.cells #[u] 36 (0, 0))) (hu : u.oneCell' = true) (hn : n ≤ 16777216) (hb : base ≤ W.heap.size)
    (hK : ∀ g cap W', W'.ownsRow base 36 1 (.slice (some ⟨g, 0, none⟩) (n + 1) cap) (n + 1) (cs ++ [u]) → Below base W W' → K (a.put o.dst (.slice (some ⟨g, 0, none⟩) (n + 1) cap)) W') :
    if Region.wanted o (yielded ops a.tmps) = true then Oper.wp Tryd.prog o a W K Q else E := by
  rw [if_pos (by simp [Region.wanted, hgd])]
  obtain ⟨i0, hi, hz0, hz1, hz2⟩ := info_parts Tryd.infoBytes
  obtain ⟨g, cap, W', hr, h2, h3, h4, _⟩ := run_append_lies (P := Tryd.prog) W 37 o.type base 36 i0 _ 1 24 Tryd.underlying37 hi hz0 hz1 hz2 rfl (by omega) v n cs hown ⟨B, 0, none⟩ 1 1 [u] rfl (World.news_of_block (cs := #[u]) hB) (by simpa using hu) (by omega) (by unfold maxLen; omega) (by omega) hb W.heap.size rfl
  unfold Oper.wp execOp
  simp only [ho, resolve, invoke, builtin, Sem.run_bind, Sem.run_pure, Result.andThen_ok, List.map_toArray, List.map_cons, List.map_nil, hs, hx, hr]
  exact hK g cap W' h2 ((Below.refl _ _).grown h3 hb (fun k hk => (World.ownsRow.lt hown k hk).1))
theorem allocAt {w : World} {o : Obj} {n : Nat} (h : n = w.heap.size) : (w.alloc o).heap[n]? = some o := by rw [h]; exact heap_alloc_new w o
theorem allocAt2 {w : World} {o o' : Obj} {n : Nat} (h : n = w.heap.size) : ((w.alloc o).alloc o').heap[n]? = some o := (heap_alloc_old (w.alloc o) o' (by rw [h]; simp)).trans (allocAt h)
theorem NRow.snoc {P : Nat → Prop} {base base' : Nat} {w w' : World} {A : Option Addr} {n c g cap : Nat} {l : List (List UInt8)} {cs : List Value} {Ax : Option Addr} {nx cx : Nat} {x : List UInt8} (h : NRow P base w A n c l cs) (hb : Below w.heap.size w w') (hn : nx = x.length) (hx : BP P w' Ax x)
    (hown : w'.ownsRow base' 36 1 (.slice (some ⟨g, 0, none⟩) (n + 1) cap) (n + 1) (cs ++ [.slice Ax nx cx])) : NRow P base' w' (some ⟨g, 0, none⟩) (n + 1) cap (l ++ [x]) (cs ++ [.slice Ax nx cx]) := by
  subst hn
  have hl := h.len
  have hcs : cs.length = n := by have := h.row.1; omega
  refine ⟨by rw [List.length_append, List.length_singleton, hl], hown, fun k hk => ?_⟩
  by_cases hkl : k < l.length
  · obtain ⟨Ak, ck, e1, e2⟩ := h.el k hkl
    refine ⟨Ak, ck, ?_, ?_⟩
    · rw [List.getElem?_append_left (by omega), e1, List.getElem_append_left hkl]
    · rw [List.getElem_append_left hkl]
      exact e2.next hb
  · have hke : k = l.length := by rw [List.length_append, List.length_singleton] at hk; omega
    subst hke
    refine ⟨Ax, cx, ?_, ?_⟩
    · rw [List.getElem?_append_right (by omega)]
      simp [hl, hcs]
    · simp only [List.getElem_concat_length]
      exact hx
end Go.Proofs.YtkmljbbnpjlehaaDoor
namespace Go.Proofs.YtkmljbbnpjlehaaDoor
set_option maxRecDepth 8000
open Go.RowKit

theorem Tryd.infoWo : (Tryd.prog.info? 40).map (fun i => (i.zero, i.size, i.bytes)) = some (some (.agg #[.int .i64 0, .int .i64 0, .slice none 0 0, .slice none 0 0, .slice none 0 0]), 5, 88) := by kernel_rfl
def woFlat (l : List Wl.O) (m : Nat → Wo) : List Value := (List.range (l.length * 5)).map fun j => (woCells (l.getD (j / 5) default) (m (j / 5))).getD (j % 5) (.bool false)
theorem woFlat_len (l : List Wl.O) (m : Nat → Wo) : (woFlat l m).length = l.length * 5 := by simp [woFlat]
theorem woCells_len (o : Wl.O) (m : Wo) : (woCells o m).length = 5 := rfl
theorem woFlat_at {l : List Wl.O} {m : Nat → Wo} {j : Nat} {u : Value} (h : (woFlat l m)[j]? = some u) : ∃ hk : j / 5 < l.length, (woCells l[j / 5] (m (j / 5)))[j % 5]? = some u := by
  have hj : j < l.length * 5 := by rw [← woFlat_len l m]; exact (List.getElem?_eq_some_iff.1 h).1
  have hk : j / 5 < l.length := by omega
  refine ⟨hk, ?_⟩
  unfold woFlat at h
  rw [List.getElem?_map, List.getElem?_range hj, Option.map_some, Option.some.injEq, List.getD_eq_getElem?_getD, List.getD_eq_getElem?_getD, List.getElem?_eq_getElem hk, Option.getD_some] at h
  rw [List.getElem?_eq_getElem (by rw [woCells_len]; omega), Option.getD_some] at h
  rw [List.getElem?_eq_getElem (by rw [woCells_len]; omega), h]
theorem woFlat_get {l : List Wl.O} {m : Nat → Wo} {k j : Nat} (hk : k < l.length) {v : Value} (hv : (woCells l[k] (m k))[j]? = some v) : (woFlat l m)[k * 5 + j]? = some v := by
  have hj : j < 5 := by rw [← woCells_len l[k] (m k)]; exact (List.getElem?_eq_some_iff.1 hv).1
  have e1 : (k * 5 + j) / 5 = k := by omega
  have e2 : (k * 5 + j) % 5 = j := by omega
  unfold woFlat
  rw [List.getElem?_map, List.getElem?_range (by omega), Option.map_some, e1, e2, List.getD_eq_getElem?_getD, List.getD_eq_getElem?_getD, List.getElem?_eq_getElem hk, Option.getD_some, hv, Option.getD_some]
theorem woCells_one (o : Wl.O) (m : Wo) : ∀ u ∈ woCells o m, u.oneCell' = true := by
  intro u hu
  unfold woCells at hu
  simp only [List.mem_cons, List.not_mem_nil, or_false] at hu
  rcases hu with rfl | rfl | rfl | rfl | rfl <;> rfl

theorem PInB.moreB {w : World} {bd bd' : Nat} {A : Option Addr} {cap : Nat} {l : List Bool} (h : PInB w bd A cap l) (hb : bd ≤ bd') : PInB w bd' A cap l := ⟨h.1, fun hn => by
  obtain ⟨b, off, e, hlt, hc⟩ := h.2 hn
  exact ⟨b, off, e, Nat.lt_of_lt_of_le hlt hb, hc⟩⟩
theorem WoIn.moreB {w : World} {bd bd' : Nat} {o : Wl.O} {m : Wo} (h : WoIn w bd o m) (hb : bd ≤ bd') : WoIn w bd' o m := ⟨h.b.moreB hb, h.l.moreB hb, h.p.moreB hb, h.cb, h.cl, h.lq, h.lp, h.i⟩
/-- append([]Op{..}, l...). -/
theorem ops_copy {W : World} {ops : Array Oper} {rest : List Oper} {op : Oper} {a : Act} {Q : Exit → Act → World → Prop} (hw : Region.wanted op (yielded ops a.tmps) = true) (s x : Operand) (base G : Nat) (A : Option Addr) (p n c : Nat) (xs : List Value) (pre l : List Wl.O)
    (ho : op.op = .call { callee := .builtin .append, args := #[s, x], argTypes := #[22, 22] }) (hs : a.eval s = .slice (some ⟨G, 0, none⟩) p p) (hx : a.eval x = .slice A n c) (hl : l.length = n) (hp : pre.length = p) (hp0 : 0 < p) (hp9 : p ≤ 1000)
    (hown : W.ownsRow base 40 5 (.slice (some ⟨G, 0, none⟩) p p) p xs) (hbase : base ≤ W.heap.size) (hpre : ∀ k (_ : k < pre.length), ∃ m : Wo, (∀ j v, (woCells pre[k] m)[j]? = some v → xs[k * 5 + j]? = some v) ∧ WoIn W base pre[k] m) (hwos : WosIn W base A l) (hn : n ≤ 1048576)
    (hK : ∀ g cap W', WosIn W' W'.heap.size (some ⟨g, 0, none⟩) (pre ++ l) → Below base W W' → base ≤ g → wpList Tryd.prog ops Q rest (a.put op.dst (.slice (some ⟨g, 0, none⟩) (p + n) cap)) W') :
    wpList Tryd.prog ops Q (op :: rest) a W := by
  obtain ⟨i0, hi, hz0, hz1, hz2⟩ := info_parts Tryd.infoWo
  obtain ⟨hxl, ho2⟩ := hown
  have hown : W.ownsRow base 40 5 (.slice (some ⟨G, 0, none⟩) p p) p xs := ⟨hxl, ho2⟩
  obtain ⟨hbG, hGlt⟩ := World.ownsRow.lt hown G rfl
  refine BigFrame.wpList_want hw fun K hK' => ?_
  have hmain : ∃ g cap W', (Builtin.append_ #[22, 22] op.type #[.slice (some ⟨G, 0, none⟩) p p, .slice A n c]).run Tryd.prog W = .ok (.slice (some ⟨g, 0, none⟩) (p + n) cap) W' ∧ WosIn W' W'.heap.size (some ⟨g, 0, none⟩) (pre ++ l) ∧ Below base W W' ∧ base ≤ g := by
    by_cases h0 : n = 0
    · subst h0
      have hl0 : l = [] := List.eq_nil_of_length_eq_zero hl
      subst hl0
      refine ⟨G, p, W, ?_, fun _ => ⟨G, 0, rfl, hGlt, fun k hk => ?_⟩, Below.refl _ _, hbG⟩
      · cases A <;> simp [Builtin.append_, run_underlying Tryd.underlying22, sizeOf, typeInfo, hi, Builtin.lenOf, Builtin.firstCells, loadCells, loadCellsFrom, storeCells]
      · have hk' : k < pre.length := by simpa using hk
        obtain ⟨m, h1, h2⟩ := hpre k hk'
        refine ⟨m, fun j v hv => ?_, ?_⟩
        · rw [List.getElem_append_left hk'] at hv
          have := hown.cells (g := G) rfl _ v (h1 j v hv)
          rwa [Addr.add_mid] at this
        · rw [List.getElem_append_left hk']
          exact h2.moreB hbase
    · obtain ⟨b, off, rfl, hlt, hc⟩ := hwos (by omega)
      obtain ⟨mm, hmm⟩ := Deep.choose_lt (α := Wo) (n := n) (p := fun k m => ∃ hk : k < l.length, (∀ j v, (woCells l[k] m)[j]? = some v → W.cell? ⟨b, off + (k * 5 + j), none⟩ = some v) ∧ WoIn W base l[k] m) (fun k hk => by
        have hk' : k < l.length := by omega
        obtain ⟨m, h1, h2⟩ := hc k hk'
        exact ⟨m, hk', h1, h2⟩)
      obtain ⟨v', W', hr, h2, h3, h4, h5⟩ := run_append_own_at (P := Tryd.prog) W base 22 op.type 40 i0 _ 5 88 Tryd.underlying22 hi hz0 hz1 hz2 rfl (by omega) _ p xs hown ⟨b, off, none⟩ n c (woFlat l mm) (by rw [woFlat_len, hl]) (fun j u hu => by
          obtain ⟨hk, h1⟩ := woFlat_at hu
          obtain ⟨_, h2, _⟩ := hmm (j / 5) (by omega)
          have h3 := h2 _ _ h1
          rw [Addr.add_mid]
          rwa [show j / 5 * 5 + j % 5 = j by omega] at h3) (fun u hu => by
          obtain ⟨j, hj, rfl⟩ := List.mem_iff_getElem.1 hu
          obtain ⟨hk, h1⟩ := woFlat_at (List.getElem?_eq_getElem hj)
          exact woCells_one _ _ _ (List.mem_of_getElem? h1)) (by unfold maxLen; omega) (by omega) hbase
      obtain ⟨g, cap, rfl, hbg, hgl⟩ := h2.form (by omega)
      have hb : Below base W W' := (Below.refl _ _).grown h3 hbase (fun k hk => by
        have hk' : G = k := by simpa [Value.ownBlock] using hk
        omega)
      refine ⟨g, cap, W', hr, fun _ => ⟨g, 0, rfl, hgl, fun k hk => ?_⟩, hb, hbg⟩
      have hz := hb.size
      by_cases hkp : k < pre.length
      · obtain ⟨m, h6, h7⟩ := hpre k hkp
        refine ⟨m, fun j v hv => ?_, ?_⟩
        · rw [List.getElem_append_left hkp] at hv
          have h8 := h6 j v hv
          have h9 := (List.getElem?_eq_some_iff.1 h8).1
          have := h2.cells (g := g) rfl (k * 5 + j) v (by rw [List.getElem?_append_left h9]; exact h8)
          rwa [Addr.add_mid] at this
        · rw [List.getElem_append_left hkp]
          exact (h7.keep hb).moreB (Nat.le_trans hbase hz)
      · have hk2 : k - pre.length < l.length := by rw [List.length_append] at hk; omega
        obtain ⟨_, h6, h7⟩ := hmm (k - pre.length) (by omega)
        refine ⟨mm (k - pre.length), fun j v hv => ?_, ?_⟩
        · rw [List.getElem_append_right (by omega)] at hv
          have h8 := woFlat_get hk2 hv
          have hj : j < 5 := by rw [← woCells_len l[k - pre.length] (mm (k - pre.length))]; exact (List.getElem?_eq_some_iff.1 hv).1
          have := h2.cells (g := g) rfl (k * 5 + j) v (by
            rw [List.getElem?_append_right (by rw [hxl]; omega), show k * 5 + j - xs.length = (k - pre.length) * 5 + j by rw [hxl]; omega]
            exact h8)
          rwa [Addr.add_mid] at this
        · rw [List.getElem_append_right (by omega)]
          exact (h7.keep hb).moreB (Nat.le_trans hbase hz)
  obtain ⟨g, cap, W', hr, h2, h3, h4⟩ := hmain
  unfold Oper.wp execOp
  simp only [ho, resolve, invoke, builtin, Sem.run_bind, Sem.run_pure, Result.andThen_ok, List.map_toArray, List.map_cons, List.map_nil, hs, hx, hr]
  exact hK' _ _ (hK g cap W' h2 h3 h4)
end Go.Proofs.YtkmljbbnpjlehaaDoor
