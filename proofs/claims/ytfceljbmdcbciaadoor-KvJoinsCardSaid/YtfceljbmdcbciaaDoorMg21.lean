/- Laws for the walk: a variable of an array's or a struct's type is made, and filled at once. No condition. What the call Write of package disk does, for any disk that stages at most 1048575 blocks, and any bytes. -/
import Derived.Test.YtfceljbmdcbciaaDoorMg20
import Derived.Great.Walk
import Derived.Great.FillDense
namespace Go.Proofs.YtfceljbmdcbciaaDoor
set_option maxRecDepth 8000
open Go.RowKit

theorem wpList_alloc_z {P : Program} {w : World} {ops : Array Oper} {rest : List Oper} {a : Act} {Q : Exit → Act → World → Prop} {s : Tmp} {ty : TypeId} {pos : String} {after : Array Edge} (t : TypeId) (z : Array Value) (hz : ∀ w, (zeroValue t).run P w = .ok (.agg z) w)
    (h : wpList P ops Q rest (a.put (some s) (.pointer (some ⟨w.heap.size, 0, none⟩))) (w.alloc (.cells z t))) : wpList P ops Q (⟨some s, .alloc t, ty, pos, after, none⟩ :: rest) a w := by
  refine wpList_plain rfl fun K hK => ?_
  unfold Oper.wp execOp
  simp [Instr.alloc, hz, newVar, newRow, Value.cells, Result.andThen]
  exact hK _ _ h
theorem wpList_store_new {P : Program} {w : World} {ops : Array Oper} {rest : List Oper} {a : Act} {Q : Exit → Act → World → Prop} {ty : TypeId} {pos : String} {after : Array Edge} (t : TypeId) (x y : Operand) (z cells : Array Value)
    (hx : a.eval x = .pointer (some ⟨w.heap.size, 0, none⟩)) (hy : a.eval y = .agg cells) (hi : (P.info? t).map (·.size) = some cells.size) (ho : z.size = cells.size) (h1 : cells.all (·.oneCell') = true)
    (h : wpList P ops Q rest a (w.alloc (.cells cells t))) : wpList P ops Q (⟨none, .store t x y, ty, pos, after, none⟩ :: rest) a (w.alloc (.cells z t)) := by
  refine wpList_store_rowTo rfl t x y rfl rfl w.heap.size cells hx hy t z (heap_alloc_last w _) hi ho h1 ?_
  rw [World.setRow_alloc_new]
  exact h

/-- A load of one cell. -/
theorem wp_load1 {P : Program} {op : Oper} {a : Act} {w : World} {K : Act → World → Prop} {Q : Exit → Act → World → Prop} (ty : TypeId) (x : Operand) (ho : op.op = .load ty x) (p : Addr) (hx : a.eval x = .pointer (some p)) (v : Value) (hc : w.cell? p = some v)
    (d : TypeDesc) (hu : P.underlying ty = some d) (hd : d.isRow = false) (h : K (a.put op.dst v) w) : op.wp P a w K Q := by
  have hagg : (isAgg ty).run P w = .ok false w := by
    unfold isAgg
    rw [Sem.run_bind, run_underlying hu w]
    cases d <;> simp_all
  have hl : (loadVar ty p).run P w = .ok v w := by
    unfold loadVar
    rw [Sem.run_bind, hagg]
    simp [hc]
  unfold Oper.wp execOp
  simp only [ho, hx, Instr.loadAt, Instr.sureAddr, Sem.run_bind, Sem.run_pure, Result.andThen_ok, hl]
  exact h

/-- A store of one cell. -/
theorem wp_store1 {P : Program} {op : Oper} {a : Act} {w : World} {K : Act → World → Prop} {Q : Exit → Act → World → Prop} (ty : TypeId) (x y : Operand) (ho : op.op = .store ty x y) (b o : Nat) (hx : a.eval x = .pointer (some ⟨b, o, none⟩)) (v u : Value) (hy : a.eval y = v) (h1 : v.oneCell' = true)
    (hc : w.cell? ⟨b, o, none⟩ = some u) (hf : w.frozen? ⟨b, o, none⟩ = false) (hi : (P.info? ty).map (·.size) = some 1) (h : K (a.put op.dst undef) (w.setCell ⟨b, o, none⟩ v)) : op.wp P a w K Q := by
  have hcv : v.cells = #[v] := by cases v <;> first | rfl | cases h1
  have ht : w.there b o 1 := fun j hj => by
    obtain rfl : j = 0 := by omega
    rw [Nat.add_zero, hc]
    exact ⟨rfl, hf⟩
  have hr := run_storeVar_mid (P := P) w b o ty #[v] ht hi (by simp [h1])
  have hs : (storeVar ty ⟨b, o, none⟩ v).run P w = .ok () (w.setCell ⟨b, o, none⟩ v) := by
    have e : storeVar ty ⟨b, o, none⟩ v = storeVar ty ⟨b, o, none⟩ (.agg #[v]) := by
      unfold storeVar
      rw [hcv]
      rfl
    rw [e, hr]
    rfl
  unfold Oper.wp execOp
  simp only [ho, hx, hy, Instr.storeAt, Instr.sureAddr, Sem.run_bind, Sem.run_pure, Result.andThen_ok, hs]
  exact h
/-- Bools stay where blocks change that are none of theirs. -/
theorem BoC.rows {w w' : World} {G : Option Addr} {l : List Bool} (h : BoC w G l) (R : List Nat) (hR : ∀ b ∈ R, ∃ c t fr, w.heap[b]? = some (.cells c t fr) ∧ t ≠ 4) (hs : ∀ x, x < w.heap.size → x ∉ R → w'.heap[x]? = w.heap[x]?) : BoC w' G l := fun hn => by
  have h' : BoC w' G l := h.block (fun x hx => by
    have hb : x < w.heap.size := by
      obtain ⟨g, off, rfl, hg, _⟩ := h hn
      simp [blkOf] at hx
      subst hx
      exact hg
    refine hs x hb (fun hxR => ?_)
    obtain ⟨c, t, fr, hc, ht⟩ := hR x hxR
    exact h.far hn hc ht hx)
  exact h' hn
theorem scs_snoc (l : List (Nat × List UInt8)) (i : Nat) (x : List UInt8) : scs (l ++ [(i, x)]) = scs l ++ (.int .i64 (i : Int) :: bcs x) := by simp [scs]
/-- One block more is staged. -/
theorem step_push {w w2 w3 : World} {a a1 : Mm} {d1 : Dk.D} {j m gg cp : Nat} {x : List UInt8} {cs : Array Value} (hm : d1.st.length = m) (h : DAt w2 a1 d1) (ht : There w2 a1) (ho : Out a.F w w2) (hF1 : ∀ x ∈ a1.F, x ∈ a.F ∨ w.heap.size ≤ x) (hP : a1.P = a.P) (hk : a1.k = a.k) (hj : j < d1.n) (hx : x.length = 32)
    (hown : w3.ownsRow 0 121 33 (.slice (some ⟨gg, 0, none⟩) (m + 1) cp) (m + 1) (scs d1.st ++ (.int .i64 (j : Int) :: bcs x)))
    (hgrow : (w2.drew.alloc (.cells cs 121)).grownBy w3 (Value.slice a1.S m a1.cS).ownBlock) (hat : (Value.slice a1.S m a1.cS).ownBlock = some gg ∨ gg = w2.drew.heap.size + 1) (hlt : gg < w3.heap.size) :
    Step w a { d1 with st := d1.st ++ [(j, x)] } (w3.setCell ⟨a1.P, 1, none⟩ (.slice (some ⟨gg, 0, none⟩) (m + 1) cp)) := by
  have hsz : w2.heap.size + 1 ≤ w3.heap.size := by have := hgrow.size; simpa using this
  have hrow : (Value.slice a1.S m a1.cS).ownBlock = a1.S.map (·.block) := by cases a1.S <;> rfl
  have hkeep : ∀ b, b < w2.heap.size → b ∉ blkOf a1.S → w3.heap[b]? = w2.heap[b]? := fun b hb hn => by
    have hne : some b ≠ (Value.slice a1.S m a1.cS).ownBlock := by
      rw [hrow]
      intro e
      cases hS : a1.S with
      | none => rw [hS] at e; cases e
      | some ad =>
        rw [hS] at e hn
        injection e with e
        exact hn (by simp [blkOf, e])
    rw [hgrow.block b (by simp; omega) hne, Below.heap_alloc w2.drew _ b hb]
    rfl
  have hPd : w3.heap[a1.P]? = _ := (hkeep a1.P (lt_of_blk' h.disk) h.PS).trans h.disk
  have hkd : w3.heap[a1.k]? = _ := (hkeep a1.k (lt_of_blk' h.kept) h.kS).trans h.kept
  have hggP : gg ≠ a1.P := by
    intro e
    obtain ⟨cur, hc⟩ := own_lt hown gg (by simp [blkOf])
    rw [e, hPd] at hc
    simp at hc
  have hlen : (d1.st ++ [(j, x)]).length = m + 1 := by simp [hm]
  have hsub : ∀ y ∈ ({ a1 with S := some ⟨gg, 0, none⟩, cS := cp } : Mm).F, y ∈ a1.F ∨ y = gg := by
    intro y hy
    rcases (mem_F _ _).1 hy with rfl | rfl | hy | hy
    · exact .inl ((mem_F a1 _).2 (.inl rfl))
    · exact .inl ((mem_F a1 _).2 (.inr (.inl rfl)))
    · exact .inr (by simpa [blkOf] using hy)
    · exact .inl ((mem_F a1 _).2 (.inr (.inr (.inr hy))))
  have hgg : gg ∈ a1.F ∨ w2.heap.size ≤ gg := by
    rcases hat with e | e
    · rw [hrow] at e
      cases hS : a1.S with
      | none => rw [hS] at e; cases e
      | some ad =>
        rw [hS] at e
        have e : ad.block = gg := by injection e
        exact .inl ((mem_F a1 _).2 (.inr (.inr (.inl (by rw [hS]; simp [blkOf]; exact e.symm)))))
    · exact .inr (by rw [e]; show w2.heap.size ≤ w2.heap.size + 1; omega)
  refine ⟨{ a1 with S := some ⟨gg, 0, none⟩, cS := cp }, hP, hk, ⟨⟨h.ok.n, h.ok.kept, ?_⟩, ?_, ?_, ?_, ?_, h.cap, h.left⟩, ⟨?_⟩, ?_, ?_⟩
  · intro s hs
    rcases List.mem_append.1 hs with hs | hs
    · exact h.ok.st s hs
    · rw [List.mem_singleton] at hs
      subst hs
      exact ⟨hj, hx⟩
  · show (w3.setCell _ _).heap[a1.P]? = _
    rw [setP_heap hPd 1 _, hlen]
    rfl
  · show (w3.setCell _ _).heap[a1.k]? = _
    rw [setP_other w3 a1.P 1 _ a1.k (fun e => h.Pk e.symm)]
    exact hkd
  · show (w3.setCell _ _).ownsRow 0 121 33 (.slice (some ⟨gg, 0, none⟩) (d1.st ++ [(j, x)]).length cp) (d1.st ++ [(j, x)]).length (scs (d1.st ++ [(j, x)]))
    rw [hlen, scs_snoc]
    exact own_block hown (fun b hb => setP_other w3 a1.P 1 _ b (by simp [blkOf] at hb; rw [hb]; exact hggP))
  · have h3 : BoC w3 a1.G d1.plan := h.plan.rows (blkOf a1.S) (fun b hb => by
      obtain ⟨cur, hc⟩ := own_lt h.st b hb
      exact ⟨cur, _, _, hc, by decide⟩) (fun b hb hn => hkeep b hb hn)
    exact h3.past hPd (by decide) (fun y _ hy => setP_other w3 a1.P 1 _ y hy)
  · intro y hy
    rw [World.size_setCell]
    rcases hsub y hy with hy | rfl
    · have := ht.all y hy
      omega
    · exact hlt
  · have ho3 : Out a.F w w3 := ho.trans (G := a1.F) ⟨by rw [hgrow.os]; rfl, by rw [hgrow.tape]; rfl, by rw [hgrow.output]; rfl, by omega, fun b hb hn => hkeep b hb (fun hS => hn ((mem_F a1 _).2 (.inr (.inr (.inl hS)))))⟩ hF1
    exact ho3.setCell (.inl (by rw [hP]; exact (mem_F a _).2 (.inl rfl))) _
  · intro y hy
    rcases hsub y hy with hy | rfl
    · exact hF1 y hy
    · rcases hgg with hy | hy
      · exact hF1 y hy
      · exact .inr (Nat.le_trans ho.size hy)

/-- The zero values of a block and of a staged block. -/
def zB : Array Value := (List.replicate 32 (B 0)).toArray
def zS : Array Value := (.int .i64 0 :: List.replicate 32 (B 0)).toArray
theorem zB_run (w : World) : (zeroValue 119).run Tryd.prog w = .ok (.agg zB) w := by
  obtain ⟨i0, hi0, hz0, _, _⟩ := info_parts Tryd.infoBlock
  simp [zeroValue, typeInfo, hi0, hz0, zB]
theorem zS_run (w : World) : (zeroValue 121).run Tryd.prog w = .ok (.agg zS) w := by
  obtain ⟨i0, hi0, hz0, _, _⟩ := info_parts Tryd.infoStaged
  simp [zeroValue, typeInfo, hi0, hz0, zS]
theorem zB_size : zB.size = 32 := rfl
theorem zS_size : zS.size = 33 := rfl
theorem sizeBlock : (Tryd.prog.info? 119).map (·.size) = some 32 := by kernel_rfl
theorem sizeStaged : (Tryd.prog.info? 121).map (·.size) = some 33 := by kernel_rfl
/-- The cells of a block, of a staged block. -/
def cB (l : List UInt8) : Array Value := (bcs l).toArray
def cS (i : Int) (l : List UInt8) : Array Value := (.int .i64 i :: bcs l).toArray
theorem cB_size (l : List UInt8) : (cB l).size = l.length := by simp [cB, bcs_len]
theorem cS_size (i : Int) (l : List UInt8) : (cS i l).size = l.length + 1 := by simp [cS, bcs_len]
theorem cB_one (l : List UInt8) : (cB l).all (·.oneCell') = true := all_oneCell_toArray (bcs_one l)
theorem cS_one (i : Int) (l : List UInt8) : (cS i l).all (·.oneCell') = true := all_oneCell_toArray (fun v hv => by
  rcases List.mem_cons.1 hv with rfl | hv
  · rfl
  · exact bcs_one l v hv)
def z32 : List UInt8 := List.replicate 32 0
theorem z32_len : z32.length = 32 := rfl
theorem built_staged (i : Int) : Tryd.prog.built 121 [(0, .int .i64 i)] = some (cS i z32) := by kernel_rfl
/-- What a copy of at most 32 bytes makes of it. -/
theorem splice_staged (i : Int) (l : List UInt8) : splice (.int .i64 i :: bcs z32) 1 (bcs l) = .int .i64 i :: bcs (Dk.pad l) := by
  unfold splice
  rw [bcs_len, show 1 + l.length = l.length + 1 by omega, List.drop_succ_cons]
  show [Value.int .i64 i] ++ (bcs l ++ (List.map B (List.replicate 32 0)).drop l.length) = _
  rw [List.map_replicate, List.drop_replicate]
  unfold Dk.pad bcs
  rw [List.map_append, List.map_replicate]
  rfl
theorem scs_len {n : Nat} : ∀ (l : List (Nat × List UInt8)), l.length = n → (∀ s ∈ l, s.2.length = 32) → (scs l).length = n * 33
  | [], h, _ => by subst h; rfl
  | s :: r, h, hl => by
    obtain ⟨m, rfl⟩ : ∃ m, n = m + 1 := ⟨n - 1, by simp at h; omega⟩
    have ih := scs_len (n := m) r (by simpa using h) (fun x hx => hl x (by simp [hx]))
    have e : scs (s :: r) = (.int .i64 (s.1 : Int) :: bcs s.2) ++ scs r := by simp [scs]
    rw [e, List.length_append, ih, List.length_cons, bcs_len, hl s (by simp)]
    omega
theorem fill_staged (c : Array Value) (hc : c.size = 33) : Instr.fill (fun i => some (i * 33, 33)) ((Array.range (1 * 33)).map (zS[· % zS.size]!)) [(0, .agg c)] = some c := by
  have h := Great.fill_whole (s := 33) (by omega) [.agg c] ((Array.range (1 * 33)).map (zS[· % zS.size]!)) (fun v hv => by rw [List.mem_singleton] at hv; rw [hv]; exact hc) (by simp)
  have e : ([Value.agg c].flatMap fun v => v.cells.toList).toArray = c := by simp [Value.cells]
  rw [e] at h
  exact h
end Go.Proofs.YtfceljbmdcbciaaDoor
namespace Go.Proofs.YtfceljbmdcbciaaDoor
set_option maxRecDepth 8000
open Go.RowKit

/-- Bytes that came in (at most so many as Go allows). -/
def BIn (w : World) (A : Option Addr) (l : List UInt8) : Prop := 0 < l.length → ∃ b off, A = some ⟨b, off, none⟩ ∧ b < w.heap.size ∧ ∀ k (h : k < l.length), w.cell? ⟨b, off + k, none⟩ = some (B l[k])
def ErrPost (w : World) (a : Mm) (x : Int) (d' : Dk.D) (e : Ending) (w' : World) : Prop := e = .returned (.int .i64 x) ∧ Step w a d' w'

set_option maxHeartbeats 1600000 in
theorem write_any (w : World) (a : Mm) (d : Dk.D) (i : Int) (A : Option Addr) (cap : Nat) (l : List UInt8) (h : DAt w a d) (ht : There w a) (hst : d.st.length ≤ 1048575) (hl : l.length ≤ 9223372036854775807) (hA : BIn w A l) (hF : 0 < l.length → ∀ ad, A = some ad → ad.block ∉ a.F) :
    Calls Tryd.prog 97 #[.pointer (some ⟨a.P, 0, none⟩), .int .i64 i, .slice A l.length cap] w (ErrPost w a (d.writeE i l) (d.write i l)) := by
  obtain ⟨i0, hi0, hz0, hz1, hz2⟩ := info_parts Tryd.infoStaged
  have HH := has_any w a d i h
  have HFA := fails_any w a d h ht
  by_cases hi : i < 0 ∨ (d.n : Int) ≤ i
  · have e1 : hasB d.n i = false := by unfold hasB; simp; omega
    rw [e1] at HH
    have HE : Hid (ErrPost w a (d.writeE i l) (d.write i l) (.returned (.int .i64 4)) w) := Lib.hid (by
      unfold Dk.D.writeE Dk.D.write
      rw [if_pos hi, if_pos hi]
      exact ⟨rfl, Step.quiet h ht (Below.refl _ _)⟩)
    clear hi e1 HFA
    go_enter Tryd.func97, Tryd.ntmps97
    go_wp2_with fail
    refine HH.mono ?_
    rintro e w' ⟨rfl, rfl⟩
    go_wp2
    go_ret
    exact HE.out
  · have e1 : hasB d.n i = true := by unfold hasB; simp; omega
    rw [e1] at HH
    by_cases hlen : 32 < l.length
    · have HE : Hid (ErrPost w a (d.writeE i l) (d.write i l) (.returned (.int .i64 2)) w) := Lib.hid (by
        unfold Dk.D.writeE Dk.D.write
        rw [if_neg hi, if_neg hi, if_pos hlen, if_pos hlen]
        exact ⟨rfl, Step.quiet h ht (Below.refl _ _)⟩)
      have hlI : (32 : Int) < (l.length : Int) := by omega
      clear hi e1 HFA hlen
      go_enter Tryd.func97, Tryd.ntmps97
      go_wp2_with fail
      refine HH.mono ?_
      rintro e w' ⟨rfl, rfl⟩
      go_wp2
      go_ret
      exact HE.out
    · have hlI : ¬ (32 : Int) < (l.length : Int) := by omega
      cases hb : d.bad with
      | true =>
        have HE : Hid (∀ w', Step w a d.asked w' → ErrPost w a (d.writeE i l) (d.write i l) (.returned (.int .i64 21)) w') := Lib.hid (fun w' hs => by
          unfold Dk.D.writeE Dk.D.write
          rw [if_neg hi, if_neg hi, if_neg hlen, if_neg hlen, hb, if_pos rfl, if_pos rfl]
          exact ⟨rfl, hs⟩)
        rw [hb] at HFA
        clear hi e1 hlen hb
        go_enter Tryd.func97, Tryd.ntmps97
        go_wp2_with fail
        refine HH.mono ?_
        rintro e w' ⟨rfl, rfl⟩
        go_wp2_with fail
        refine HFA.mono ?_
        rintro e w' ⟨rfl, hs⟩
        have HE2 := Lib.hid (HE.out _ hs)
        clear hs
        go_wp2
        go_ret
        exact HE2.out
      | false =>
        have HE : Hid (∀ w', Step w a { d.asked with st := d.st ++ [(i.toNat, Dk.pad l)] } w' → ErrPost w a (d.writeE i l) (d.write i l) (.returned (.int .i64 0)) w') := Lib.hid (fun w' hs => by
          unfold Dk.D.writeE Dk.D.write
          rw [if_neg hi, if_neg hi, if_neg hlen, if_neg hlen, hb]
          exact ⟨rfl, hs⟩)
        rw [hb] at HFA
        clear e1 hb
        obtain ⟨j, rfl⟩ := Int.eq_ofNat_of_zero_le (show 0 ≤ i by omega)
        have hjn : j < d.n := by omega
        obtain ⟨j0, hj0⟩ : ∃ j0 : Int, j0 = (j : Int) := ⟨_, rfl⟩
        rw [← hj0] at HH ⊢
        have HJ0 := Lib.hid hj0
        clear hj0
        clear hi
        go_enter Tryd.func97, Tryd.ntmps97
        go_wp2_with fail
        refine HH.mono ?_
        rintro e w' ⟨rfl, rfl⟩
        go_wp2_with fail
        refine HFA.mono ?_
        rintro e w1 ⟨rfl, a1, hP1, hk1, hat1, ht1, ho1, hF1⟩
        have HIN : Hid (0 < l.length → ∃ ad, A = some ad ∧ ∀ j v, (bcs l)[j]? = some v → (w1.alloc (.cells (cS j0 z32) 121)).cell? (ad.add j) = some v) := Lib.hid (fun hn => by
          obtain ⟨b, off, rfl, hb, hc⟩ := hA hn
          refine ⟨_, rfl, fun k v hv => ?_⟩
          rw [Addr.add_mid, World.cell?_alloc_lt _ _ _ (show b < w1.heap.size from Nat.lt_of_lt_of_le hb ho1.size), World.cell?_of_block (w := w) (w' := w1) (a := ⟨b, off + k, none⟩) (ho1.block b hb (hF hn _ rfl))]
          have hk : k < l.length := by have := (List.getElem?_eq_some_iff.1 hv).1; simpa [bcs] using this
          rw [hc k hk]
          simpa [bcs, List.getElem?_eq_getElem hk] using hv)
        have HAT := Lib.hid hat1
        have HT := Lib.hid ht1
        have HO := Lib.hid ho1
        have HF1 := Lib.hid hF1
        have HP := Lib.hid hP1
        have HK := Lib.hid hk1
        clear hat1 ht1 ho1 hF1 hP1 hk1 hA hF h ht HH
        go_wp2_with (first
          | ((with_reducible refine wpList_buildTo (o := ⟨some 18, _, _, _, _, _⟩) rfl 121 _ rfl (some 18) rfl (cS j0 z32) ?_ ?_); exact built_staged j0)
          | (with_reducible refine wpList_alloc_z (s := 7) 121 zS zS_run ?_)
          | ((with_reducible refine wpList_store_new 121 (.tmp 7) (.tmp 18) zS (cS j0 z32) ?_ ?_ ?_ ?_ ?_ ?_); exact rfl; exact rfl; exact (by rw [cS_size]; exact sizeStaged); exact (by rw [cS_size, zS_size]; rfl); exact (cS_one _ _))
          | ((with_reducible refine wpList_copy_splice (o := ⟨some 22, _, _, _, _, _⟩) rfl (.tmp 20) (.tmp 21) 36 36 rfl 5 Tryd.underlying36 (by kernel_rfl) (some ⟨w1.heap.size, 1, none⟩) A 32 32 l.length cap ?_ ?_ w1.heap.size 1 (.int .i64 j0 :: bcs z32) 121 ?_ (bcs l) ?_ ?_ ?_ (bcs_one l) w1.heap.size w1 ((Below.refl _ _).alloc (Nat.le_refl _) _) (Nat.le_refl _) ?_); exact rfl; exact rfl; exact (heap_alloc_new w1 _); exact (by rw [bcs_len]; exact (Nat.min_eq_left (by omega)).symm); exact (fun hn => ⟨rfl, HIN.out (by simpa [bcs_len] using hn)⟩); exact (by simp [bcs_len, z32_len]; omega); intro w2 HW2 HB2; rw [splice_staged j0 l] at HW2))
        have hd2 : DAt w2 a1 d.asked := HAT.out.same (fun x hx => HB2.block x (HT.out.all x hx))
        have ht2 : There w2 a1 := HT.out.more HB2.size
        have hst2 := hd2.st
        rw [Dk.asked_st] at hst2
        have c1 := hd2.c.2.1
        rw [Dk.asked_st] at c1
        have f1 := hd2.fr 1
        have hlt1 : a1.P < w1.heap.size := HT.out.all _ ((mem_F a1 _).2 (.inl rfl))
        have HD2 := Lib.hid hd2
        have HT2 := Lib.hid ht2
        clear hd2 ht2
        rw [HP.out] at c1 f1 hlt1
        obtain ⟨g, hg⟩ : ∃ g, g = w1.heap.size := ⟨_, rfl⟩
        rw [← hg] at hlt1 HW2 ⊢
        have HG := Lib.hid hg
        clear hg
        obtain ⟨m, hm⟩ : ∃ m, m = d.st.length := ⟨_, rfl⟩
        rw [← hm] at hst2 c1 hst
        have hm63 : m + 1 ≤ maxLen := by unfold maxLen; omega
        have hm64 : (m + 1) * 40 ≤ 140737488355328 := by omega
        have HM := Lib.hid hm
        clear hm
        obtain ⟨S1, hS1⟩ : ∃ S1, S1 = a1.S := ⟨_, rfl⟩
        obtain ⟨cS1, hcS1⟩ : ∃ c, c = a1.cS := ⟨_, rfl⟩
        rw [← hS1, ← hcS1] at hst2 c1
        have HS1 := Lib.hid hS1
        have HcS1 := Lib.hid hcS1
        clear hS1 hcS1
        have hrg : w2.rangeAt g 0 (cS j0 (Dk.pad l)).toList := fun j v hv => by
          rw [Nat.zero_add, cell_of_row w2 g j _ _ _ HW2.out]
          simpa [cS] using hv
        have hst2' : w2.drew.ownsRow 0 121 33 (.slice S1 m cS1) m (scs d.st) := hst2
        have c1' : (w2.drew.alloc (.cells (cS j0 (Dk.pad l)) 121)).cell? ⟨a.P, 1, none⟩ = some (.slice S1 m cS1) := (World.cell?_alloc_lt w2.drew _ ⟨a.P, 1, none⟩ (World.block_lt_of_cell? w2 _ c1)).trans c1
        have hblk3 : ∀ w3, (w2.drew.alloc (.cells (cS j0 (Dk.pad l)) 121)).grownBy w3 (Value.slice S1 m cS1).ownBlock → ∀ b, b < w2.heap.size → b ∉ blkOf S1 → w3.heap[b]? = w2.heap[b]? := fun w3 hg b hb hn => by
          have hne : some b ≠ (Value.slice S1 m cS1).ownBlock := by
            intro e
            cases S1 with
            | none => cases e
            | some ad => injection e with e; exact hn (by simp [blkOf, e])
          rw [hg.block b (by simp; omega) hne, Below.heap_alloc w2.drew _ b hb]
          rfl
        have hgS : g ∉ blkOf S1 := fun hb => by
          have := HT.out.all g ((mem_F a1 _).2 (.inr (.inr (.inl (by rw [← HS1.out]; exact hb)))))
          have e := HG.out
          omega
        have hPS : a.P ∉ blkOf S1 := by rw [← HP.out, HS1.out]; exact HD2.out.PS
        have hg2 : g < w2.heap.size := lt_of_blk' HW2.out
        have hP2 : a.P < w2.heap.size := World.block_lt_of_cell? w2 _ c1
        have hkeep : ∀ w3, (w2.drew.alloc (.cells (cS j0 (Dk.pad l)) 121)).grownBy w3 (Value.slice S1 m cS1).ownBlock → w3.rangeAt g 0 (cS j0 (Dk.pad l)).toList := fun w3 hg j v hv =>
          (World.cell?_of_block (w := w2) (a := ⟨g, 0 + j, none⟩) (hblk3 w3 hg g hg2 hgS)).trans (hrg j v hv)
        have hcell3 : ∀ w3, (w2.drew.alloc (.cells (cS j0 (Dk.pad l)) 121)).grownBy w3 (Value.slice S1 m cS1).ownBlock → w3.cell? ⟨a.P, 1, none⟩ = some (.slice S1 m cS1) := fun w3 hg =>
          (World.cell?_of_block (w := w2) (a := ⟨a.P, 1, none⟩) (hblk3 w3 hg a.P hP2 hPS)).trans c1
        have hfr3 : ∀ w3, (w2.drew.alloc (.cells (cS j0 (Dk.pad l)) 121)).grownBy w3 (Value.slice S1 m cS1).ownBlock → w3.frozen? ⟨a.P, 1, none⟩ = false := fun w3 hg =>
          (World.frozen?_of_block (w := w2) (a := ⟨a.P, 1, none⟩) (hblk3 w3 hg a.P hP2 hPS)).trans f1
        have hrng3 : ∀ w3 u, (w2.drew.alloc (.cells (cS j0 (Dk.pad l)) 121)).grownBy w3 (Value.slice S1 m cS1).ownBlock → (w3.setCell ⟨a.P, 1, none⟩ u).rangeAt g 0 (cS j0 (Dk.pad l)).toList := fun w3 u hg j v hv =>
          (World.cell?_of_block (w := w3) (a := ⟨g, 0 + j, none⟩) (setP_other w3 a.P 1 u g (by omega))).trans (hkeep w3 hg j v hv)
        have hfin : ∀ gg cp w3, w3.ownsRow 0 121 33 (.slice (some ⟨gg, 0, none⟩) (m + 1) cp) (m + 1) (scs d.st ++ (cS j0 (Dk.pad l)).toList) → (w2.drew.alloc (.cells (cS j0 (Dk.pad l)) 121)).grownBy w3 (Value.slice S1 m cS1).ownBlock → ((Value.slice S1 m cS1).ownBlock = some gg ∨ gg = w2.drew.heap.size + 1) → gg < w3.heap.size →
            Step w a { d.asked with st := d.st ++ [((j : Int).toNat, Dk.pad l)] } (w3.setCell ⟨a.P, 1, none⟩ (.slice (some ⟨gg, 0, none⟩) (m + 1) cp)) := by
          intro gg cp w3 hown hgrow hat hlt
          have e1 : (cS j0 (Dk.pad l)).toList = .int .i64 (j : Int) :: bcs (Dk.pad l) := by rw [HJ0.out]; rfl
          rw [e1, ← Dk.asked_st] at hown
          rw [HS1.out, HcS1.out] at hgrow hat
          have := step_push (w := w) (a := a) (j := j) (x := Dk.pad l) (by rw [Dk.asked_st, HM.out]) HD2.out HT2.out (HO.out.trans (Out.of (F := []) HB2) (fun x hx => by cases hx)) HF1.out HP.out HK.out (by rw [Dk.asked_n]; exact hjn) (Dk.pad_len l (by omega)) hown hgrow hat hlt
          rw [Dk.asked_st, HP.out] at this
          rw [Int.toNat_natCast]
          exact this
        refine wp_region_held_drew (S := fun wx => wx.rangeAt g 0 (cS j0 (Dk.pad l)).toList) (by kernel_rfl) hrg (fun hHeld => ?_)
        refine wpAnyH_take (i := 0) (oi := ⟨_, _, _, _, _, _⟩) (v := .pointer (some ⟨a.P, 0, none⟩)) rfl (by kernel_rfl) (by kernel_rfl) (by kernel_rfl) (fun _ _ _ h => h) (Or.inl ⟨by rfl, by intro wx hSw; (try dsimp only at hSw); go_simp⟩) (by assumption) ?_
        simp only [Act.put, List.setIfInBounds_toArray, List.set_cons_zero, List.set_cons_succ]
        refine wpAnyH_take (i := 1) (oi := ⟨_, _, _, _, _, _⟩) (v := .pointer (some ⟨a.P, 0, none⟩)) rfl (by kernel_rfl) (by kernel_rfl) (by kernel_rfl) (fun _ _ _ h => h) (Or.inl ⟨by rfl, by intro wx hSw; (try dsimp only at hSw); go_simp⟩) (by assumption) ?_
        simp only [Act.put, List.setIfInBounds_toArray, List.set_cons_zero, List.set_cons_succ]
        refine wpAnyH_take (i := 2) (oi := ⟨_, _, _, _, _, _⟩) (v := .pointer (some ⟨a.P, 0, none⟩)) rfl (by kernel_rfl) (by kernel_rfl) (by kernel_rfl) (fun _ _ _ h => h) (Or.inl ⟨by rfl, by intro wx hSw; (try dsimp only at hSw); go_simp⟩) (by assumption) ?_
        simp only [Act.put, List.setIfInBounds_toArray, List.set_cons_zero, List.set_cons_succ]
        refine wpAnyH_take (i := 3) (oi := ⟨_, _, _, _, _, _⟩) (v := .pointer (some ⟨a.P, 1, none⟩)) rfl (by kernel_rfl) (by kernel_rfl) (by kernel_rfl) (fun _ _ _ h => h) (Or.inl ⟨by rfl, by intro wx hSw; (try dsimp only at hSw); go_simp⟩) (by assumption) ?_
        simp only [Act.put, List.setIfInBounds_toArray, List.set_cons_zero, List.set_cons_succ]
        refine wpAnyH_take (i := 5) (oi := ⟨_, _, _, _, _, _⟩) (v := .agg (cS j0 (Dk.pad l))) rfl (by kernel_rfl) (by kernel_rfl) (by kernel_rfl) (fun _ _ _ h => h) (yieldsIf_load_mid (by rfl) _ _ rfl g 0 rfl (cS j0 (Dk.pad l)).toList _ (fun _ hw => hw) Tryd.underlying121 rfl (by rw [Array.length_toList, cS_size, Dk.pad_len l (by omega)]; exact sizeStaged)) (by assumption) ?_
        simp only [Act.put, List.setIfInBounds_toArray, List.set_cons_zero, List.set_cons_succ]
        refine wpAnyH_ready (rs := [4, 6]) (by kernel_rfl) (by simp) ?_
        refine AllReadyH.cons (o := ⟨_, _, _, _, _, _⟩) rfl (fun K hK => ?_) (AllReadyH.cons (o := ⟨_, _, _, _, _, _⟩) rfl (fun K hK => ?_) AllReadyH.nil)
        · rw [if_pos (by rfl)]
          refine wp_load1 78 _ rfl ⟨a.P, 1, none⟩ rfl (.slice S1 m cS1) c1 _ Tryd.underlying78 rfl ?_
          refine hK.out _ _ hHeld (fun hHeld => ?_)
          clear hK K
          simp only [Act.put, List.setIfInBounds_toArray, List.set_cons_zero, List.set_cons_succ]
          refine wpAnyH_ready (rs := [6]) (by kernel_rfl) (by simp) ?_
          refine AllReadyH.cons (o := ⟨_, _, _, _, _, _⟩) rfl (fun K hK => ?_) AllReadyH.nil
          rw [if_pos (by rfl)]
          refine wp_buildSlice 78 121 1 _ rfl (cS j0 (Dk.pad l)) i0 (.agg zS) Tryd.underlying78 hi0 hz0 (by rw [hz1]; decide) (by rw [hz1]; decide) (by rw [hz1, Array.toList_map]; exact fill_staged (cS j0 (Dk.pad l)) (by rw [cS_size, Dk.pad_len l (by omega)])) ?_
          refine hK.out _ _ (World.rangeAt_alloc hHeld _) (fun hHeld => ?_)
          clear hK K
          simp only [Act.put, List.setIfInBounds_toArray, List.set_cons_zero, List.set_cons_succ]
          refine wpAnyH_ready (rs := [7]) (by kernel_rfl) (by simp) ?_
          refine AllReadyH.cons (o := ⟨_, _, _, _, _, _⟩) rfl (fun K hK => ?_) AllReadyH.nil
          rw [if_pos (by rfl)]
          refine wp_append_lies _ (.tmp 27) (.tmp 29) 78 rfl 0 121 i0 (.agg zS) 33 40 Tryd.underlying78 hi0 hz0 hz1 hz2 zS_size (by omega) (.slice S1 m cS1) m (scs d.st) rfl (hst2'.alloc _) ⟨w2.drew.heap.size, 0, none⟩ 1 1 (cS j0 (Dk.pad l)).toList rfl (by rw [Array.length_toList, cS_size, Dk.pad_len l (by omega)]) (World.news_of_block (heap_alloc_new w2.drew _)) (fun v hv => Array.all_eq_true_iff_forall_mem.1 (cS_one j0 (Dk.pad l)) v (by simpa using hv)) (by omega) hm63 hm64 (Nat.zero_le _) (w2.drew.heap.size + 1) (by simp) ?_
          intro gg cp w3 hown3 hgrow3 hat3 hlt3
          refine hK.out _ _ (hkeep _ hgrow3) (fun hHeld => ?_)
          clear hK K
          simp only [Act.put, List.setIfInBounds_toArray, List.set_cons_zero, List.set_cons_succ]
          refine wpAnyH_take (i := 8) (oi := ⟨_, _, _, _, _, _⟩) (v := .pointer (some ⟨a.P, 0, none⟩)) rfl (by kernel_rfl) (by kernel_rfl) (by kernel_rfl) (fun _ _ _ h => h) (Or.inl ⟨by rfl, by intro wx hSw; (try dsimp only at hSw); go_simp⟩) (by assumption) ?_
          simp only [Act.put, List.setIfInBounds_toArray, List.set_cons_zero, List.set_cons_succ]
          refine wpAnyH_take (i := 9) (oi := ⟨_, _, _, _, _, _⟩) (v := .pointer (some ⟨a.P, 1, none⟩)) rfl (by kernel_rfl) (by kernel_rfl) (by kernel_rfl) (fun _ _ _ h => h) (Or.inl ⟨by rfl, by intro wx hSw; (try dsimp only at hSw); go_simp⟩) (by assumption) ?_
          simp only [Act.put, List.setIfInBounds_toArray, List.set_cons_zero, List.set_cons_succ]
          refine wpAnyH_ready (rs := [10]) (by kernel_rfl) (by simp) ?_
          refine AllReadyH.cons (o := ⟨_, _, _, _, _, _⟩) rfl (fun K hK => ?_) AllReadyH.nil
          rw [if_pos (by rfl)]
          refine wp_store1 78 _ _ rfl a.P 1 rfl (.slice (some ⟨gg, 0, none⟩) (m + 1) cp) (.slice S1 m cS1) rfl rfl (hcell3 _ hgrow3) (hfr3 _ hgrow3) (by kernel_rfl) ?_
          refine hK.out _ _ (hrng3 _ _ hgrow3) (fun hHeld => ?_)
          clear hK K
          simp only [Act.put]
          refine wpAnyH_done (by kernel_rfl) ?_ _
          have HFIN := Lib.hid (hfin gg cp w3 hown3 hgrow3 hat3 hlt3)
          clear hown3 hgrow3 hat3 hlt3 hkeep hcell3 hfr3 hrng3 hHeld hfin hst2' hst2 c1 c1' f1
          go_wp2
          go_ret
          have HZ := HE.out _ HFIN.out
          rw [← HJ0.out] at HZ
          exact HZ
        · rw [if_pos (by rfl)]
          refine wp_buildSlice 78 121 1 _ rfl (cS j0 (Dk.pad l)) i0 (.agg zS) Tryd.underlying78 hi0 hz0 (by rw [hz1]; decide) (by rw [hz1]; decide) (by rw [hz1, Array.toList_map]; exact fill_staged (cS j0 (Dk.pad l)) (by rw [cS_size, Dk.pad_len l (by omega)])) ?_
          refine hK.out _ _ (World.rangeAt_alloc hHeld _) (fun hHeld => ?_)
          clear hK K
          simp only [Act.put, List.setIfInBounds_toArray, List.set_cons_zero, List.set_cons_succ]
          refine wpAnyH_ready (rs := [4]) (by kernel_rfl) (by simp) ?_
          refine AllReadyH.cons (o := ⟨_, _, _, _, _, _⟩) rfl (fun K hK => ?_) AllReadyH.nil
          rw [if_pos (by rfl)]
          refine wp_load1 78 _ rfl ⟨a.P, 1, none⟩ rfl (.slice S1 m cS1) c1' _ Tryd.underlying78 rfl ?_
          refine hK.out _ _ hHeld (fun hHeld => ?_)
          clear hK K
          simp only [Act.put, List.setIfInBounds_toArray, List.set_cons_zero, List.set_cons_succ]
          refine wpAnyH_ready (rs := [7]) (by kernel_rfl) (by simp) ?_
          refine AllReadyH.cons (o := ⟨_, _, _, _, _, _⟩) rfl (fun K hK => ?_) AllReadyH.nil
          rw [if_pos (by rfl)]
          refine wp_append_lies _ (.tmp 27) (.tmp 29) 78 rfl 0 121 i0 (.agg zS) 33 40 Tryd.underlying78 hi0 hz0 hz1 hz2 zS_size (by omega) (.slice S1 m cS1) m (scs d.st) rfl (hst2'.alloc _) ⟨w2.drew.heap.size, 0, none⟩ 1 1 (cS j0 (Dk.pad l)).toList rfl (by rw [Array.length_toList, cS_size, Dk.pad_len l (by omega)]) (World.news_of_block (heap_alloc_new w2.drew _)) (fun v hv => Array.all_eq_true_iff_forall_mem.1 (cS_one j0 (Dk.pad l)) v (by simpa using hv)) (by omega) hm63 hm64 (Nat.zero_le _) (w2.drew.heap.size + 1) (by simp) ?_
          intro gg cp w3 hown3 hgrow3 hat3 hlt3
          refine hK.out _ _ (hkeep _ hgrow3) (fun hHeld => ?_)
          clear hK K
          simp only [Act.put, List.setIfInBounds_toArray, List.set_cons_zero, List.set_cons_succ]
          refine wpAnyH_take (i := 8) (oi := ⟨_, _, _, _, _, _⟩) (v := .pointer (some ⟨a.P, 0, none⟩)) rfl (by kernel_rfl) (by kernel_rfl) (by kernel_rfl) (fun _ _ _ h => h) (Or.inl ⟨by rfl, by intro wx hSw; (try dsimp only at hSw); go_simp⟩) (by assumption) ?_
          simp only [Act.put, List.setIfInBounds_toArray, List.set_cons_zero, List.set_cons_succ]
          refine wpAnyH_take (i := 9) (oi := ⟨_, _, _, _, _, _⟩) (v := .pointer (some ⟨a.P, 1, none⟩)) rfl (by kernel_rfl) (by kernel_rfl) (by kernel_rfl) (fun _ _ _ h => h) (Or.inl ⟨by rfl, by intro wx hSw; (try dsimp only at hSw); go_simp⟩) (by assumption) ?_
          simp only [Act.put, List.setIfInBounds_toArray, List.set_cons_zero, List.set_cons_succ]
          refine wpAnyH_ready (rs := [10]) (by kernel_rfl) (by simp) ?_
          refine AllReadyH.cons (o := ⟨_, _, _, _, _, _⟩) rfl (fun K hK => ?_) AllReadyH.nil
          rw [if_pos (by rfl)]
          refine wp_store1 78 _ _ rfl a.P 1 rfl (.slice (some ⟨gg, 0, none⟩) (m + 1) cp) (.slice S1 m cS1) rfl rfl (hcell3 _ hgrow3) (hfr3 _ hgrow3) (by kernel_rfl) ?_
          refine hK.out _ _ (hrng3 _ _ hgrow3) (fun hHeld => ?_)
          clear hK K
          simp only [Act.put]
          refine wpAnyH_done (by kernel_rfl) ?_ _
          have HFIN := Lib.hid (hfin gg cp w3 hown3 hgrow3 hat3 hlt3)
          clear hown3 hgrow3 hat3 hlt3 hkeep hcell3 hfr3 hrng3 hHeld hfin hst2' hst2 c1 c1' f1
          go_wp2
          go_ret
          have HZ := HE.out _ HFIN.out
          rw [← HJ0.out] at HZ
          exact HZ
end Go.Proofs.YtfceljbmdcbciaaDoor
