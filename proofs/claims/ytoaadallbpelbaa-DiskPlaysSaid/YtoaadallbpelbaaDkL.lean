/- Laws for the walk: a variable of an array's or a struct's type is made, and filled at once. No condition. -/
import Derived.Test.YtoaadallbpelbaaDkG
import Derived.Great.Walk
import Derived.Great.FillDense
namespace Go.Proofs.Ytoaadallbpelbaa
set_option maxRecDepth 8000
open Go.RowKit

theorem wpList_alloc_z {P : Program} {w : World} {ops : Array Oper} {rest : List Oper} {a : Act} {Q : Exit → Act → World → Prop} {s : Tmp} {ty : TypeId} {pos : String} {after : Array Edge} (t : TypeId) (z : Array Value) (hz : ∀ w, (zeroValue t).run P w = .ok (.agg z) w)
    (h : wpList P ops Q rest (a.put (some s) (.pointer (some ⟨w.heap.size, 0, none⟩))) (w.alloc (.cells z t))) : wpList P ops Q (⟨some s, .alloc t, ty, pos, after, none⟩ :: rest) a w := by
  refine wpList_plain rfl fun K hK => ?_
  unfold Oper.wp execOp
  simp [Instr.alloc, hz, newVar, newRow, Value.cells, Result.andThen]
  exact hK _ _ h
theorem wpList_store_new {P : Program} {w : World} {ops : Array Oper} {rest : List Oper} {a : Act} {Q : Exit → Act → World → Prop} {ty : TypeId} {pos : String} {after : Array Edge} (t : TypeId) (x y : Operand) (z cells : Array Value)
    (hx : a.eval x = .pointer (some ⟨w.heap.size, 0, none⟩)) (hy : a.eval y = .agg cells) (hi : (P.info? t).map (·.size) = some cells.size) (ho : z.size = cells.size) (h1 : cells.all (·.oneCell') = true)
    (h : wpList P ops Q rest a (w.alloc (.cells cells t))) : wpList P ops Q (⟨none, .store t x y, ty, pos, after, none⟩ :: rest) a (w.alloc (.cells z t)) := by
  refine wpList_store_rowTo rfl t x y rfl rfl w.heap.size cells hx hy t z (heap_alloc_last w _) hi ho h1 ?_
  rw [World.setRow_alloc_new]
  exact h

/-- A load of one cell. -/
theorem wp_load1 {P : Program} {op : Oper} {a : Act} {w : World} {K : Act → World → Prop} {Q : Exit → Act → World → Prop} (ty : TypeId) (x : Operand) (ho : op.op = .load ty x) (p : Addr) (hx : a.eval x = .pointer (some p)) (v : Value) (hc : w.cell? p = some v)
    (d : TypeDesc) (hu : P.underlying ty = some d) (hd : d.isRow = false) (h : K (a.put op.dst v) w) : op.wp P a w K Q := by
  have hagg : (isAgg ty).run P w = .ok false w := by
    unfold isAgg
    rw [Sem.run_bind, run_underlying hu w]
    cases d <;> simp_all
  have hl : (loadVar ty p).run P w = .ok v w := by
    unfold loadVar
    rw [Sem.run_bind, hagg]
    simp [hc]
  unfold Oper.wp execOp
  simp only [ho, hx, Instr.loadAt, Instr.sureAddr, Sem.run_bind, Sem.run_pure, Result.andThen_ok, hl]
  exact h

/-- A store of one cell. -/
theorem wp_store1 {P : Program} {op : Oper} {a : Act} {w : World} {K : Act → World → Prop} {Q : Exit → Act → World → Prop} (ty : TypeId) (x y : Operand) (ho : op.op = .store ty x y) (b o : Nat) (hx : a.eval x = .pointer (some ⟨b, o, none⟩)) (v u : Value) (hy : a.eval y = v) (h1 : v.oneCell' = true)
    (hc : w.cell? ⟨b, o, none⟩ = some u) (hf : w.frozen? ⟨b, o, none⟩ = false) (hi : (P.info? ty).map (·.size) = some 1) (h : K (a.put op.dst undef) (w.setCell ⟨b, o, none⟩ v)) : op.wp P a w K Q := by
  have hcv : v.cells = #[v] := by cases v <;> first | rfl | cases h1
  have ht : w.there b o 1 := fun j hj => by
    obtain rfl : j = 0 := by omega
    rw [Nat.add_zero, hc]
    exact ⟨rfl, hf⟩
  have hr := run_storeVar_mid (P := P) w b o ty #[v] ht hi (by simp [h1])
  have hs : (storeVar ty ⟨b, o, none⟩ v).run P w = .ok () (w.setCell ⟨b, o, none⟩ v) := by
    have e : storeVar ty ⟨b, o, none⟩ v = storeVar ty ⟨b, o, none⟩ (.agg #[v]) := by
      unfold storeVar
      rw [hcv]
      rfl
    rw [e, hr]
    rfl
  unfold Oper.wp execOp
  simp only [ho, hx, hy, Instr.storeAt, Instr.sureAddr, Sem.run_bind, Sem.run_pure, Result.andThen_ok, hs]
  exact h
/-- Bools stay where blocks change that are none of theirs. -/
theorem BoC.rows {w w' : World} {G : Option Addr} {l : List Bool} (h : BoC w G l) (R : List Nat) (hR : ∀ b ∈ R, ∃ c t fr, w.heap[b]? = some (.cells c t fr) ∧ t ≠ 4) (hs : ∀ x, x < w.heap.size → x ∉ R → w'.heap[x]? = w.heap[x]?) : BoC w' G l := fun hn => by
  have h' : BoC w' G l := h.block (fun x hx => by
    have hb : x < w.heap.size := by
      obtain ⟨g, off, rfl, hg, _⟩ := h hn
      simp [blkOf] at hx
      subst hx
      exact hg
    refine hs x hb (fun hxR => ?_)
    obtain ⟨c, t, fr, hc, ht⟩ := hR x hxR
    exact h.far hn hc ht hx)
  exact h' hn
theorem scs_snoc (l : List (Nat × List UInt8)) (i : Nat) (x : List UInt8) : scs (l ++ [(i, x)]) = scs l ++ (.int .i64 (i : Int) :: bcs x) := by simp [scs]
/-- One block more is staged. -/
theorem step_push {w w2 w3 : World} {a a1 : Mm} {d1 : Dk.D} {j m gg cp : Nat} {x : List UInt8} {cs : Array Value} (hm : d1.st.length = m) (h : DAt w2 a1 d1) (ht : There w2 a1) (ho : Out a.F w w2) (hF1 : ∀ x ∈ a1.F, x ∈ a.F ∨ w.heap.size ≤ x) (hP : a1.P = a.P) (hk : a1.k = a.k) (hj : j < d1.n) (hx : x.length = 32)
    (hown : w3.ownsRow 0 68 33 (.slice (some ⟨gg, 0, none⟩) (m + 1) cp) (m + 1) (scs d1.st ++ (.int .i64 (j : Int) :: bcs x)))
    (hgrow : (w2.drew.alloc (.cells cs 68)).grownBy w3 (Value.slice a1.S m a1.cS).ownBlock) (hat : (Value.slice a1.S m a1.cS).ownBlock = some gg ∨ gg = w2.drew.heap.size + 1) (hlt : gg < w3.heap.size) :
    Step w a { d1 with st := d1.st ++ [(j, x)] } (w3.setCell ⟨a1.P, 1, none⟩ (.slice (some ⟨gg, 0, none⟩) (m + 1) cp)) := by
  have hsz : w2.heap.size + 1 ≤ w3.heap.size := by have := hgrow.size; simpa using this
  have hrow : (Value.slice a1.S m a1.cS).ownBlock = a1.S.map (·.block) := by cases a1.S <;> rfl
  have hkeep : ∀ b, b < w2.heap.size → b ∉ blkOf a1.S → w3.heap[b]? = w2.heap[b]? := fun b hb hn => by
    have hne : some b ≠ (Value.slice a1.S m a1.cS).ownBlock := by
      rw [hrow]
      intro e
      cases hS : a1.S with
      | none => rw [hS] at e; cases e
      | some ad =>
        rw [hS] at e hn
        injection e with e
        exact hn (by simp [blkOf, e])
    rw [hgrow.block b (by simp; omega) hne, Below.heap_alloc w2.drew _ b hb]
    rfl
  have hPd : w3.heap[a1.P]? = _ := (hkeep a1.P (lt_of_blk' h.disk) h.PS).trans h.disk
  have hkd : w3.heap[a1.k]? = _ := (hkeep a1.k (lt_of_blk' h.kept) h.kS).trans h.kept
  have hggP : gg ≠ a1.P := by
    intro e
    obtain ⟨cur, hc⟩ := own_lt hown gg (by simp [blkOf])
    rw [e, hPd] at hc
    simp at hc
  have hlen : (d1.st ++ [(j, x)]).length = m + 1 := by simp [hm]
  have hsub : ∀ y ∈ ({ a1 with S := some ⟨gg, 0, none⟩, cS := cp } : Mm).F, y ∈ a1.F ∨ y = gg := by
    intro y hy
    rcases (mem_F _ _).1 hy with rfl | rfl | hy | hy
    · exact .inl ((mem_F a1 _).2 (.inl rfl))
    · exact .inl ((mem_F a1 _).2 (.inr (.inl rfl)))
    · exact .inr (by simpa [blkOf] using hy)
    · exact .inl ((mem_F a1 _).2 (.inr (.inr (.inr hy))))
  have hgg : gg ∈ a1.F ∨ w2.heap.size ≤ gg := by
    rcases hat with e | e
    · rw [hrow] at e
      cases hS : a1.S with
      | none => rw [hS] at e; cases e
      | some ad =>
        rw [hS] at e
        have e : ad.block = gg := by injection e
        exact .inl ((mem_F a1 _).2 (.inr (.inr (.inl (by rw [hS]; simp [blkOf]; exact e.symm)))))
    · exact .inr (by rw [e]; show w2.heap.size ≤ w2.heap.size + 1; omega)
  refine ⟨{ a1 with S := some ⟨gg, 0, none⟩, cS := cp }, hP, hk, ⟨⟨h.ok.n, h.ok.kept, ?_⟩, ?_, ?_, ?_, ?_, h.cap, h.left⟩, ⟨?_⟩, ?_, ?_⟩
  · intro s hs
    rcases List.mem_append.1 hs with hs | hs
    · exact h.ok.st s hs
    · rw [List.mem_singleton] at hs
      subst hs
      exact ⟨hj, hx⟩
  · show (w3.setCell _ _).heap[a1.P]? = _
    rw [setP_heap hPd 1 _, hlen]
    rfl
  · show (w3.setCell _ _).heap[a1.k]? = _
    rw [setP_other w3 a1.P 1 _ a1.k (fun e => h.Pk e.symm)]
    exact hkd
  · show (w3.setCell _ _).ownsRow 0 68 33 (.slice (some ⟨gg, 0, none⟩) (d1.st ++ [(j, x)]).length cp) (d1.st ++ [(j, x)]).length (scs (d1.st ++ [(j, x)]))
    rw [hlen, scs_snoc]
    exact own_block hown (fun b hb => setP_other w3 a1.P 1 _ b (by simp [blkOf] at hb; rw [hb]; exact hggP))
  · have h3 : BoC w3 a1.G d1.plan := h.plan.rows (blkOf a1.S) (fun b hb => by
      obtain ⟨cur, hc⟩ := own_lt h.st b hb
      exact ⟨cur, _, _, hc, by decide⟩) (fun b hb hn => hkeep b hb hn)
    exact h3.past hPd (by decide) (fun y _ hy => setP_other w3 a1.P 1 _ y hy)
  · intro y hy
    rw [World.size_setCell]
    rcases hsub y hy with hy | rfl
    · have := ht.all y hy
      omega
    · exact hlt
  · have ho3 : Out a.F w w3 := ho.trans (G := a1.F) ⟨by rw [hgrow.os]; rfl, by rw [hgrow.tape]; rfl, by rw [hgrow.output]; rfl, by omega, fun b hb hn => hkeep b hb (fun hS => hn ((mem_F a1 _).2 (.inr (.inr (.inl hS)))))⟩ hF1
    exact ho3.setCell (.inl (by rw [hP]; exact (mem_F a _).2 (.inl rfl))) _
  · intro y hy
    rcases hsub y hy with hy | rfl
    · exact hF1 y hy
    · rcases hgg with hy | hy
      · exact hF1 y hy
      · exact .inr (Nat.le_trans ho.size hy)

/-- The zero values of a block and of a staged block. -/
def zB : Array Value := (List.replicate 32 (B 0)).toArray
def zS : Array Value := (.int .i64 0 :: List.replicate 32 (B 0)).toArray
theorem zB_run (w : World) : (zeroValue 66).run Try.prog w = .ok (.agg zB) w := by
  obtain ⟨i0, hi0, hz0, _, _⟩ := info_parts Try.infoBlock
  simp [zeroValue, typeInfo, hi0, hz0, zB]
theorem zS_run (w : World) : (zeroValue 68).run Try.prog w = .ok (.agg zS) w := by
  obtain ⟨i0, hi0, hz0, _, _⟩ := info_parts Try.infoStaged
  simp [zeroValue, typeInfo, hi0, hz0, zS]
theorem zB_size : zB.size = 32 := rfl
theorem zS_size : zS.size = 33 := rfl
theorem sizeBlock : (Try.prog.info? 66).map (·.size) = some 32 := by kernel_rfl
theorem sizeStaged : (Try.prog.info? 68).map (·.size) = some 33 := by kernel_rfl
/-- The cells of a block, of a staged block. -/
def cB (l : List UInt8) : Array Value := (bcs l).toArray
def cS (i : Int) (l : List UInt8) : Array Value := (.int .i64 i :: bcs l).toArray
theorem cB_size (l : List UInt8) : (cB l).size = l.length := by simp [cB, bcs_len]
theorem cS_size (i : Int) (l : List UInt8) : (cS i l).size = l.length + 1 := by simp [cS, bcs_len]
theorem cB_one (l : List UInt8) : (cB l).all (·.oneCell') = true := all_oneCell_toArray (bcs_one l)
theorem cS_one (i : Int) (l : List UInt8) : (cS i l).all (·.oneCell') = true := all_oneCell_toArray (fun v hv => by
  rcases List.mem_cons.1 hv with rfl | hv
  · rfl
  · exact bcs_one l v hv)
def z32 : List UInt8 := List.replicate 32 0
theorem z32_len : z32.length = 32 := rfl
theorem built_staged (i : Int) : Try.prog.built 68 [(0, .int .i64 i)] = some (cS i z32) := by kernel_rfl
/-- What a copy of at most 32 bytes makes of it. -/
theorem splice_staged (i : Int) (l : List UInt8) : splice (.int .i64 i :: bcs z32) 1 (bcs l) = .int .i64 i :: bcs (Dk.pad l) := by
  unfold splice
  rw [bcs_len, show 1 + l.length = l.length + 1 by omega, List.drop_succ_cons]
  show [Value.int .i64 i] ++ (bcs l ++ (List.map B (List.replicate 32 0)).drop l.length) = _
  rw [List.map_replicate, List.drop_replicate]
  unfold Dk.pad bcs
  rw [List.map_append, List.map_replicate]
  rfl
theorem scs_len {n : Nat} : ∀ (l : List (Nat × List UInt8)), l.length = n → (∀ s ∈ l, s.2.length = 32) → (scs l).length = n * 33
  | [], h, _ => by subst h; rfl
  | s :: r, h, hl => by
    obtain ⟨m, rfl⟩ : ∃ m, n = m + 1 := ⟨n - 1, by simp at h; omega⟩
    have ih := scs_len (n := m) r (by simpa using h) (fun x hx => hl x (by simp [hx]))
    have e : scs (s :: r) = (.int .i64 (s.1 : Int) :: bcs s.2) ++ scs r := by simp [scs]
    rw [e, List.length_append, ih, List.length_cons, bcs_len, hl s (by simp)]
    omega
theorem fill_staged (c : Array Value) (hc : c.size = 33) : Instr.fill (fun i => some (i * 33, 33)) ((Array.range (1 * 33)).map (zS[· % zS.size]!)) [(0, .agg c)] = some c := by
  have h := Great.fill_whole (s := 33) (by omega) [.agg c] ((Array.range (1 * 33)).map (zS[· % zS.size]!)) (fun v hv => by rw [List.mem_singleton] at hv; rw [hv]; exact hc) (by simp)
  have e : ([Value.agg c].flatMap fun v => v.cells.toList).toArray = c := by simp [Value.cells]
  rw [e] at h
  exact h
end Go.Proofs.Ytoaadallbpelbaa
