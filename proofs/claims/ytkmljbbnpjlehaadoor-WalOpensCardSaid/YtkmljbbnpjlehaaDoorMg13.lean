/- An append of any slice (none too) to a row of the call's own, and what the call Faults of package disk does, for plans of at most 1048576 bools. Laws for the walk: a variable of an array's or a struct's type is made, and filled at once. No condition. -/
import Derived.Test.YtkmljbbnpjlehaaDoorMg12
import Derived.Great.Walk
import Derived.Great.FillDense
namespace Go.Proofs.YtkmljbbnpjlehaaDoor
set_option maxRecDepth 8000
open Go.RowKit

theorem run_append_gen {P : Program} (w : World) (base : Nat) (t ty e : TypeId) (i : TypeInfo) (z : Value) (size bytes : Nat) (ht : P.underlying t = some (.slice e)) (hi : P.info? e = some i) (hz : i.zero = some z)
    (hsize : i.size = size) (hby : i.bytes = bytes) (hzs : z.cells.size = size) (hsz : 0 < size)
    (v : Value) (n : Nat) (xs : List Value) (hown : w.ownsRow base e size v n xs)
    (A : Option Addr) (m c : Nat) (news : List Value) (hl : news.length = m * size) (hnews : 0 < m → ∃ ad, A = some ad ∧ ∀ j u, news[j]? = some u → w.cell? (ad.add j) = some u) (h1 : ∀ u ∈ news, u.oneCell' = true)
    (h63 : n + m ≤ maxLen) (hbytes : (n + m) * bytes ≤ 140737488355328) (hbase : base ≤ w.heap.size) :
    ∃ v' w', (Builtin.append_ #[t, t] ty #[v, .slice A m c]).run P w = .ok v' w' ∧ w'.ownsRow base e size v' (n + m) (xs ++ news) ∧ w.grownBy w' v.ownBlock ∧ (v'.ownBlock = v.ownBlock ∨ v'.ownBlock = some w.heap.size) := by
  by_cases hm : 0 < m
  · obtain ⟨ad, rfl, hn⟩ := hnews hm
    obtain ⟨v', w', h2, h3, h4, _, h5⟩ := run_append_own_at (P := P) w base t ty e i z size bytes ht hi hz hsize hby hzs hsz v n xs hown ad m c news hl hn h1 h63 hbytes hbase
    exact ⟨v', w', h2, h3, h4, h5⟩
  · have hm0 : m = 0 := by omega
    subst hm0
    have hn : news = [] := List.eq_nil_of_length_eq_zero (by simpa using hl)
    subst hn
    rcases A with _ | ad
    · refine ⟨v, w, ?_, by rw [Nat.add_zero, List.append_nil]; exact hown, World.grownBy.refl w _, .inl rfl⟩
      rcases hown.2 with ⟨rfl, hn⟩ | ⟨g, cap, cur, rfl, _, _, hnc, _⟩
      · simp [Builtin.append_, run_underlying ht, sizeOf, typeInfo, hi, Builtin.lenOf, Builtin.firstCells]
      · simp [Builtin.append_, run_underlying ht, sizeOf, typeInfo, hi, Builtin.lenOf, Builtin.firstCells, hnc, storeCells]
    · obtain ⟨v', w', h2, h3, h4, _, h5⟩ := run_append_own_at (P := P) w base t ty e i z size bytes ht hi hz hsize hby hzs hsz v n xs hown ad 0 c [] hl (fun j u hu => by simp at hu) h1 h63 hbytes hbase
      exact ⟨v', w', h2, h3, h4, h5⟩

theorem wpList_append_gen {P : Program} {w : World} {ops : Array Oper} {rest : List Oper} {o : Oper} {a : Act} {Q : Exit → Act → World → Prop} (hgd : o.guard = none) (s x : Operand) (t : TypeId)
    (ho : o.op = .call { callee := .builtin .append, args := #[s, x], argTypes := #[t, t] })
    (base : Nat) (e : TypeId) (i : TypeInfo) (z : Value) (size bytes : Nat) (ht : P.underlying t = some (.slice e)) (hi : P.info? e = some i) (hz : i.zero = some z)
    (hsize : i.size = size) (hby : i.bytes = bytes) (hzs : z.cells.size = size) (hsz : 0 < size)
    (v : Value) (n : Nat) (xs : List Value) (hs : a.eval s = v) (hown : w.ownsRow base e size v n xs)
    (A : Option Addr) (m c : Nat) (news : List Value) (hx : a.eval x = .slice A m c) (hl : news.length = m * size) (hnews : 0 < m → ∃ ad, A = some ad ∧ ∀ j u, news[j]? = some u → w.cell? (ad.add j) = some u) (h1 : ∀ u ∈ news, u.oneCell' = true)
    (h63 : n + m ≤ maxLen) (hbytes : (n + m) * bytes ≤ 140737488355328) (hbase : base ≤ w.heap.size)
    (h : ∀ v' w', w'.ownsRow base e size v' (n + m) (xs ++ news) → w.grownBy w' v.ownBlock → (v'.ownBlock = v.ownBlock ∨ v'.ownBlock = some w.heap.size) → wpList P ops Q rest (a.put o.dst v') w') :
    wpList P ops Q (o :: rest) a w := by
  refine wpList_plain hgd fun K hK => ?_
  obtain ⟨v', w', hr, h2, h3, h5⟩ := run_append_gen (P := P) w base t o.type e i z size bytes ht hi hz hsize hby hzs hsz v n xs hown A m c news hl hnews h1 h63 hbytes hbase
  unfold Oper.wp execOp
  simp only [ho, resolve, invoke, builtin, Sem.run_bind, Sem.run_pure, Result.andThen_ok, List.map_toArray, List.map_cons, List.map_nil, hs, hx, hr]
  exact hK _ _ (h v' w' h2 h3 h5)
/-- The form of an owned row. -/
theorem own_form {w : World} {base : Nat} {e : TypeId} {size n : Nat} {v : Value} {xs : List Value} (h : w.ownsRow base e size v n xs) : ∃ A cap, v = .slice A n cap ∧ n ≤ cap ∧ cap ≤ maxLen ∧ (0 < n → ∃ g, A = some ⟨g, 0, none⟩) ∧ (∀ x ∈ blkOf A, base ≤ x ∧ x < w.heap.size ∧ ∃ cur, w.heap[x]? = some (.cells cur e (0, 0))) := by
  rcases h.2 with ⟨rfl, rfl⟩ | ⟨g, cap, cur, rfl, hb, hg, hc, hm, _⟩
  · exact ⟨none, 0, rfl, Nat.le_refl _, by unfold maxLen; omega, fun h => absurd h (by omega), fun x hx => by cases hx⟩
  · refine ⟨_, cap, rfl, hc, hm, fun _ => ⟨g, rfl⟩, fun x hx => ?_⟩
    simp [blkOf] at hx
    subst hx
    exact ⟨hb, lt_of_blk' hg, cur, hg⟩
theorem own_empty (w : World) (base : Nat) (e : TypeId) (size : Nat) (hb : base ≤ w.heap.size) (n : Nat) (hn : n = w.heap.size) : (w.alloc (.cells #[] e)).ownsRow base e size (.slice (some ⟨n, 0, none⟩) 0 0) 0 [] := by
  subst hn
  exact ⟨by simp, .inr ⟨w.heap.size, 0, #[], rfl, hb, heap_alloc_new w _, Nat.le_refl _, Nat.zero_le _, by simp, by simp⟩⟩

/-- A row of bools that came in. -/
def PlanIn (w : World) (A : Option Addr) (cap : Nat) (p : List Bool) : Prop := (A = none → p = [] ∧ cap = 0) ∧ p.length ≤ 1048576 ∧ (0 < p.length → ∃ b off, A = some ⟨b, off, none⟩ ∧ b < w.heap.size ∧ ∀ k (h : k < p.length), w.cell? ⟨b, off + k, none⟩ = some (.bool p[k]))
def ClonePost (w : World) (p : List Bool) (e : Ending) (w' : World) : Prop :=
  ∃ G cG, e = .returned (.slice G p.length cG) ∧ BoC w' G p ∧ p.length ≤ cG ∧ cG ≤ 9223372036854775807 ∧ (∀ x ∈ blkOf G, w.heap.size ≤ x ∧ x < w'.heap.size) ∧ Below w.heap.size w w'
theorem boc_own {w : World} {base : Nat} {G : Option Addr} {cG : Nat} {p : List Bool} {n : Nat} (h : w.ownsRow base 4 1 (.slice G n cG) n (p.map .bool)) : BoC w G p := fun hn => by
  have hn' : n = p.length := by have := h.1; simp at this; omega
  obtain ⟨A, cap, e, _, _, hA, hblk⟩ := own_form h
  injection e with e1 _ _
  subst e1
  obtain ⟨g, rfl⟩ := hA (by omega)
  obtain ⟨_, hlt, cur, hg⟩ := hblk g (by simp [blkOf])
  refine ⟨g, 0, rfl, hlt, ⟨cur, _, hg⟩, fun k hk => ?_⟩
  have := h.cells (g := g) rfl k (.bool p[k]) (by simp [hk])
  rw [Addr.add_mid] at this
  exact this

set_option maxHeartbeats 800000 in
theorem clone_any (w : World) (A : Option Addr) (cap : Nat) (p : List Bool) (hp : PlanIn w A cap p) :
    Calls Tryd.prog 74 #[.slice A p.length cap] w (ClonePost w p) := by
  obtain ⟨hA, hl, hc⟩ := hp
  obtain ⟨i0, hi0, hz0, hz1, hz2⟩ := info_parts Tryd.infoBool
  rcases A with _ | ad
  · obtain ⟨rfl, rfl⟩ := hA rfl
    have HN := Lib.run_eql_slice_nil (P := Tryd.prog) w 38 4 none 0 0 0 0 Tryd.underlying38
    have HE : Hid (ClonePost w [] (.returned (.slice none 0 0)) w) := Lib.hid ⟨none, 0, rfl, fun h => absurd h (by simp), by simp, by simp, (fun x hx => by cases hx), Below.refl _ _⟩
    clear hc hl hA
    rw [List.length_nil]
    go_enter Tryd.func74, Tryd.ntmps74
    go_wp2
    go_ret
    exact HE.out
  · have HN := Lib.run_eql_slice_nil (P := Tryd.prog) w 38 4 (some ad) p.length cap 0 0 Tryd.underlying38
    have HC : Hid (0 < p.length → ∃ x, some ad = some x ∧ ∀ j u, (p.map Value.bool)[j]? = some u → w.cell? (x.add j) = some u) := Lib.hid (fun hn => by
      obtain ⟨b, off, e, _, hcell⟩ := hc hn
      refine ⟨ad, rfl, fun j u hu => ?_⟩
      injection e with e
      have hj : j < p.length := by have := (List.getElem?_eq_some_iff.1 hu).1; simpa using this
      rw [e, Addr.add_mid, hcell j hj]
      simpa [List.getElem?_eq_getElem hj] using hu)
    have HB : Hid (∀ j (x : Addr), x.block < w.heap.size → ((w.alloc (.cells #[] 4)).cell? (x.add j)) = w.cell? (x.add j)) := Lib.hid (fun j x hx => World.cell?_alloc_lt w _ _ (by unfold Addr.add; split <;> exact hx))
    have HLT : Hid (0 < p.length → ad.block < w.heap.size) := Lib.hid (fun hn => by
      obtain ⟨b, off, e, hb, _⟩ := hc hn
      injection e with e
      rw [e]; exact hb)
    clear hc hA
    have hone : ∀ u ∈ p.map Value.bool, u.oneCell' = true := by
      intro u hu
      obtain ⟨c, _, rfl⟩ := List.mem_map.1 hu
      rfl
    have hb0 : Below w.heap.size w (w.alloc (.cells #[] 4)) := (Below.refl _ _).alloc (Nat.le_refl _) _
    obtain ⟨news, hnw⟩ : ∃ news, news = p.map Value.bool := ⟨_, rfl⟩
    rw [← hnw] at HC hone
    have hnl : news.length = p.length * 1 := by rw [hnw]; simp
    have HNW := Lib.hid hnw
    clear hnw
    have HNL := Lib.hid hnl
    clear hnl
    go_enter Tryd.func74, Tryd.ntmps74
    go_wp2_with (at_builtin; refine wpList_append_gen rfl _ _ 38 rfl w.heap.size 4 i0 (.bool false) 1 1 Tryd.underlying38 hi0 hz0 hz1 hz2 rfl (by omega) (.slice (some ⟨w.heap.size, 0, none⟩) 0 0) 0 [] rfl (own_empty w _ _ _ (Nat.le_refl _) _ rfl) (some ad) p.length cap news rfl HNL.out (fun hn => by obtain ⟨x, e, h⟩ := HC.out hn; cases e; exact ⟨ad, rfl, fun j u hu => (HB.out j ad (HLT.out hn)).trans (h j u hu)⟩) hone (by unfold maxLen; omega) (by omega) (by simp) ?_; intro v1 w1 hown1 hgrow1 hat1; rw [Nat.zero_add, List.nil_append] at hown1; obtain ⟨G, cG, rfl, hcG, hmax, _, hblk⟩ := own_form hown1; clear hat1)
    go_ret
    rw [HNW.out] at hown1
    refine ⟨G, cG, rfl, boc_own hown1, by omega, by unfold maxLen at hmax; omega, fun x hx => ⟨(hblk x hx).1, (hblk x hx).2.1⟩, ?_⟩
    exact hb0.grown hgrow1 (by simp) (fun q hq => by simp [Value.ownBlock] at hq; omega)

set_option maxHeartbeats 800000 in
theorem faults_any (w : World) (a : Mm) (d : Dk.D) (A : Option Addr) (cap : Nat) (p : List Bool) (h : DAt w a d) (ht : There w a) (hp : PlanIn w A cap p) :
    Calls Tryd.prog 37 #[.pointer (some ⟨a.P, 0, none⟩), .slice A p.length cap] w (NoPost w a { d with plan := p }) := by
  have HC := clone_any w A cap p hp
  have HH := Lib.hid h
  have HT := Lib.hid ht
  obtain ⟨n, hn⟩ : ∃ n, n = p.length := ⟨_, rfl⟩
  rw [← hn] at HC ⊢
  have HNN := Lib.hid hn
  clear hn hp h ht
  go_enter Tryd.func37, Tryd.ntmps37
  go_wp2_with fail
  refine HC.mono ?_
  rintro e w1 ⟨G, cG, rfl, hbo, hc1, hc2, hblk, hb⟩
  have h1 := HH.out.same (fun x hx => hb.block x (HT.out.all x hx))
  have t1 := HT.out.more hb.size
  have f2 := h1.fr 2
  have c2 := h1.c.2.2.1
  have HS : Hid (Step w a { d with plan := p } (w1.setCell ⟨a.P, 2, none⟩ (.slice G p.length cG))) := Lib.hid (by
    obtain ⟨a', p1, p2, p3, p4, p5⟩ := step_plan h1 t1 G cG p hbo ⟨hc1, hc2⟩ (fun x hx => (hblk x hx).2) w.heap.size hb.size (fun x hx => .inr (hblk x hx).1)
    exact ⟨a', p1, p2, p3, p4, (Out.of hb).setCell (.inl ((mem_F a _).2 (.inl rfl))) _, p5⟩)
  clear h1 t1 hblk hb hc1 hc2 hbo HC
  go_wp2
  go_end0
  exact ⟨rfl, HS.out⟩
end Go.Proofs.YtkmljbbnpjlehaaDoor
namespace Go.Proofs.YtkmljbbnpjlehaaDoor
set_option maxRecDepth 8000
open Go.RowKit

theorem wpList_alloc_z {P : Program} {w : World} {ops : Array Oper} {rest : List Oper} {a : Act} {Q : Exit → Act → World → Prop} {s : Tmp} {ty : TypeId} {pos : String} {after : Array Edge} (t : TypeId) (z : Array Value) (hz : ∀ w, (zeroValue t).run P w = .ok (.agg z) w)
    (h : wpList P ops Q rest (a.put (some s) (.pointer (some ⟨w.heap.size, 0, none⟩))) (w.alloc (.cells z t))) : wpList P ops Q (⟨some s, .alloc t, ty, pos, after, none⟩ :: rest) a w := by
  refine wpList_plain rfl fun K hK => ?_
  unfold Oper.wp execOp
  simp [Instr.alloc, hz, newVar, newRow, Value.cells, Result.andThen]
  exact hK _ _ h
theorem wpList_store_new {P : Program} {w : World} {ops : Array Oper} {rest : List Oper} {a : Act} {Q : Exit → Act → World → Prop} {ty : TypeId} {pos : String} {after : Array Edge} (t : TypeId) (x y : Operand) (z cells : Array Value)
    (hx : a.eval x = .pointer (some ⟨w.heap.size, 0, none⟩)) (hy : a.eval y = .agg cells) (hi : (P.info? t).map (·.size) = some cells.size) (ho : z.size = cells.size) (h1 : cells.all (·.oneCell') = true)
    (h : wpList P ops Q rest a (w.alloc (.cells cells t))) : wpList P ops Q (⟨none, .store t x y, ty, pos, after, none⟩ :: rest) a (w.alloc (.cells z t)) := by
  refine wpList_store_rowTo rfl t x y rfl rfl w.heap.size cells hx hy t z (heap_alloc_last w _) hi ho h1 ?_
  rw [World.setRow_alloc_new]
  exact h

/-- A load of one cell. -/
theorem wp_load1 {P : Program} {op : Oper} {a : Act} {w : World} {K : Act → World → Prop} {Q : Exit → Act → World → Prop} (ty : TypeId) (x : Operand) (ho : op.op = .load ty x) (p : Addr) (hx : a.eval x = .pointer (some p)) (v : Value) (hc : w.cell? p = some v)
    (d : TypeDesc) (hu : P.underlying ty = some d) (hd : d.isRow = false) (h : K (a.put op.dst v) w) : op.wp P a w K Q := by
  have hagg : (isAgg ty).run P w = .ok false w := by
    unfold isAgg
    rw [Sem.run_bind, run_underlying hu w]
    cases d <;> simp_all
  have hl : (loadVar ty p).run P w = .ok v w := by
    unfold loadVar
    rw [Sem.run_bind, hagg]
    simp [hc]
  unfold Oper.wp execOp
  simp only [ho, hx, Instr.loadAt, Instr.sureAddr, Sem.run_bind, Sem.run_pure, Result.andThen_ok, hl]
  exact h

/-- A store of one cell. -/
theorem wp_store1 {P : Program} {op : Oper} {a : Act} {w : World} {K : Act → World → Prop} {Q : Exit → Act → World → Prop} (ty : TypeId) (x y : Operand) (ho : op.op = .store ty x y) (b o : Nat) (hx : a.eval x = .pointer (some ⟨b, o, none⟩)) (v u : Value) (hy : a.eval y = v) (h1 : v.oneCell' = true)
    (hc : w.cell? ⟨b, o, none⟩ = some u) (hf : w.frozen? ⟨b, o, none⟩ = false) (hi : (P.info? ty).map (·.size) = some 1) (h : K (a.put op.dst undef) (w.setCell ⟨b, o, none⟩ v)) : op.wp P a w K Q := by
  have hcv : v.cells = #[v] := by cases v <;> first | rfl | cases h1
  have ht : w.there b o 1 := fun j hj => by
    obtain rfl : j = 0 := by omega
    rw [Nat.add_zero, hc]
    exact ⟨rfl, hf⟩
  have hr := run_storeVar_mid (P := P) w b o ty #[v] ht hi (by simp [h1])
  have hs : (storeVar ty ⟨b, o, none⟩ v).run P w = .ok () (w.setCell ⟨b, o, none⟩ v) := by
    have e : storeVar ty ⟨b, o, none⟩ v = storeVar ty ⟨b, o, none⟩ (.agg #[v]) := by
      unfold storeVar
      rw [hcv]
      rfl
    rw [e, hr]
    rfl
  unfold Oper.wp execOp
  simp only [ho, hx, hy, Instr.storeAt, Instr.sureAddr, Sem.run_bind, Sem.run_pure, Result.andThen_ok, hs]
  exact h
/-- Bools stay where blocks change that are none of theirs. -/
theorem BoC.rows {w w' : World} {G : Option Addr} {l : List Bool} (h : BoC w G l) (R : List Nat) (hR : ∀ b ∈ R, ∃ c t fr, w.heap[b]? = some (.cells c t fr) ∧ t ≠ 4) (hs : ∀ x, x < w.heap.size → x ∉ R → w'.heap[x]? = w.heap[x]?) : BoC w' G l := fun hn => by
  have h' : BoC w' G l := h.block (fun x hx => by
    have hb : x < w.heap.size := by
      obtain ⟨g, off, rfl, hg, _⟩ := h hn
      simp [blkOf] at hx
      subst hx
      exact hg
    refine hs x hb (fun hxR => ?_)
    obtain ⟨c, t, fr, hc, ht⟩ := hR x hxR
    exact h.far hn hc ht hx)
  exact h' hn
theorem scs_snoc (l : List (Nat × List UInt8)) (i : Nat) (x : List UInt8) : scs (l ++ [(i, x)]) = scs l ++ (.int .i64 (i : Int) :: bcs x) := by simp [scs]
/-- One block more is staged. -/
theorem step_push {w w2 w3 : World} {a a1 : Mm} {d1 : Dk.D} {j m gg cp : Nat} {x : List UInt8} {cs : Array Value} (hm : d1.st.length = m) (h : DAt w2 a1 d1) (ht : There w2 a1) (ho : Out a.F w w2) (hF1 : ∀ x ∈ a1.F, x ∈ a.F ∨ w.heap.size ≤ x) (hP : a1.P = a.P) (hk : a1.k = a.k) (hj : j < d1.n) (hx : x.length = 32)
    (hown : w3.ownsRow 0 124 33 (.slice (some ⟨gg, 0, none⟩) (m + 1) cp) (m + 1) (scs d1.st ++ (.int .i64 (j : Int) :: bcs x)))
    (hgrow : (w2.drew.alloc (.cells cs 124)).grownBy w3 (Value.slice a1.S m a1.cS).ownBlock) (hat : (Value.slice a1.S m a1.cS).ownBlock = some gg ∨ gg = w2.drew.heap.size + 1) (hlt : gg < w3.heap.size) :
    Step w a { d1 with st := d1.st ++ [(j, x)] } (w3.setCell ⟨a1.P, 1, none⟩ (.slice (some ⟨gg, 0, none⟩) (m + 1) cp)) := by
  have hsz : w2.heap.size + 1 ≤ w3.heap.size := by have := hgrow.size; simpa using this
  have hrow : (Value.slice a1.S m a1.cS).ownBlock = a1.S.map (·.block) := by cases a1.S <;> rfl
  have hkeep : ∀ b, b < w2.heap.size → b ∉ blkOf a1.S → w3.heap[b]? = w2.heap[b]? := fun b hb hn => by
    have hne : some b ≠ (Value.slice a1.S m a1.cS).ownBlock := by
      rw [hrow]
      intro e
      cases hS : a1.S with
      | none => rw [hS] at e; cases e
      | some ad =>
        rw [hS] at e hn
        injection e with e
        exact hn (by simp [blkOf, e])
    rw [hgrow.block b (by simp; omega) hne, Below.heap_alloc w2.drew _ b hb]
    rfl
  have hPd : w3.heap[a1.P]? = _ := (hkeep a1.P (lt_of_blk' h.disk) h.PS).trans h.disk
  have hkd : w3.heap[a1.k]? = _ := (hkeep a1.k (lt_of_blk' h.kept) h.kS).trans h.kept
  have hggP : gg ≠ a1.P := by
    intro e
    obtain ⟨cur, hc⟩ := own_lt hown gg (by simp [blkOf])
    rw [e, hPd] at hc
    simp at hc
  have hlen : (d1.st ++ [(j, x)]).length = m + 1 := by simp [hm]
  have hsub : ∀ y ∈ ({ a1 with S := some ⟨gg, 0, none⟩, cS := cp } : Mm).F, y ∈ a1.F ∨ y = gg := by
    intro y hy
    rcases (mem_F _ _).1 hy with rfl | rfl | hy | hy
    · exact .inl ((mem_F a1 _).2 (.inl rfl))
    · exact .inl ((mem_F a1 _).2 (.inr (.inl rfl)))
    · exact .inr (by simpa [blkOf] using hy)
    · exact .inl ((mem_F a1 _).2 (.inr (.inr (.inr hy))))
  have hgg : gg ∈ a1.F ∨ w2.heap.size ≤ gg := by
    rcases hat with e | e
    · rw [hrow] at e
      cases hS : a1.S with
      | none => rw [hS] at e; cases e
      | some ad =>
        rw [hS] at e
        have e : ad.block = gg := by injection e
        exact .inl ((mem_F a1 _).2 (.inr (.inr (.inl (by rw [hS]; simp [blkOf]; exact e.symm)))))
    · exact .inr (by rw [e]; show w2.heap.size ≤ w2.heap.size + 1; omega)
  refine ⟨{ a1 with S := some ⟨gg, 0, none⟩, cS := cp }, hP, hk, ⟨⟨h.ok.n, h.ok.kept, ?_⟩, ?_, ?_, ?_, ?_, h.cap, h.left⟩, ⟨?_⟩, ?_, ?_⟩
  · intro s hs
    rcases List.mem_append.1 hs with hs | hs
    · exact h.ok.st s hs
    · rw [List.mem_singleton] at hs
      subst hs
      exact ⟨hj, hx⟩
  · show (w3.setCell _ _).heap[a1.P]? = _
    rw [setP_heap hPd 1 _, hlen]
    rfl
  · show (w3.setCell _ _).heap[a1.k]? = _
    rw [setP_other w3 a1.P 1 _ a1.k (fun e => h.Pk e.symm)]
    exact hkd
  · show (w3.setCell _ _).ownsRow 0 124 33 (.slice (some ⟨gg, 0, none⟩) (d1.st ++ [(j, x)]).length cp) (d1.st ++ [(j, x)]).length (scs (d1.st ++ [(j, x)]))
    rw [hlen, scs_snoc]
    exact own_block hown (fun b hb => setP_other w3 a1.P 1 _ b (by simp [blkOf] at hb; rw [hb]; exact hggP))
  · have h3 : BoC w3 a1.G d1.plan := h.plan.rows (blkOf a1.S) (fun b hb => by
      obtain ⟨cur, hc⟩ := own_lt h.st b hb
      exact ⟨cur, _, _, hc, by decide⟩) (fun b hb hn => hkeep b hb hn)
    exact h3.past hPd (by decide) (fun y _ hy => setP_other w3 a1.P 1 _ y hy)
  · intro y hy
    rw [World.size_setCell]
    rcases hsub y hy with hy | rfl
    · have := ht.all y hy
      omega
    · exact hlt
  · have ho3 : Out a.F w w3 := ho.trans (G := a1.F) ⟨by rw [hgrow.os]; rfl, by rw [hgrow.tape]; rfl, by rw [hgrow.output]; rfl, by omega, fun b hb hn => hkeep b hb (fun hS => hn ((mem_F a1 _).2 (.inr (.inr (.inl hS)))))⟩ hF1
    exact ho3.setCell (.inl (by rw [hP]; exact (mem_F a _).2 (.inl rfl))) _
  · intro y hy
    rcases hsub y hy with hy | rfl
    · exact hF1 y hy
    · rcases hgg with hy | hy
      · exact hF1 y hy
      · exact .inr (Nat.le_trans ho.size hy)

/-- The zero values of a block and of a staged block. -/
def zB : Array Value := (List.replicate 32 (B 0)).toArray
def zS : Array Value := (.int .i64 0 :: List.replicate 32 (B 0)).toArray
theorem zB_run (w : World) : (zeroValue 121).run Tryd.prog w = .ok (.agg zB) w := by
  obtain ⟨i0, hi0, hz0, _, _⟩ := info_parts Tryd.infoBlock
  simp [zeroValue, typeInfo, hi0, hz0, zB]
theorem zS_run (w : World) : (zeroValue 124).run Tryd.prog w = .ok (.agg zS) w := by
  obtain ⟨i0, hi0, hz0, _, _⟩ := info_parts Tryd.infoStaged
  simp [zeroValue, typeInfo, hi0, hz0, zS]
theorem zB_size : zB.size = 32 := rfl
theorem zS_size : zS.size = 33 := rfl
theorem sizeBlock : (Tryd.prog.info? 121).map (·.size) = some 32 := by kernel_rfl
theorem sizeStaged : (Tryd.prog.info? 124).map (·.size) = some 33 := by kernel_rfl
/-- The cells of a block, of a staged block. -/
def cB (l : List UInt8) : Array Value := (bcs l).toArray
def cS (i : Int) (l : List UInt8) : Array Value := (.int .i64 i :: bcs l).toArray
theorem cB_size (l : List UInt8) : (cB l).size = l.length := by simp [cB, bcs_len]
theorem cS_size (i : Int) (l : List UInt8) : (cS i l).size = l.length + 1 := by simp [cS, bcs_len]
theorem cB_one (l : List UInt8) : (cB l).all (·.oneCell') = true := all_oneCell_toArray (bcs_one l)
theorem cS_one (i : Int) (l : List UInt8) : (cS i l).all (·.oneCell') = true := all_oneCell_toArray (fun v hv => by
  rcases List.mem_cons.1 hv with rfl | hv
  · rfl
  · exact bcs_one l v hv)
def z32 : List UInt8 := List.replicate 32 0
theorem z32_len : z32.length = 32 := rfl
theorem built_staged (i : Int) : Tryd.prog.built 124 [(0, .int .i64 i)] = some (cS i z32) := by kernel_rfl
/-- What a copy of at most 32 bytes makes of it. -/
theorem splice_staged (i : Int) (l : List UInt8) : splice (.int .i64 i :: bcs z32) 1 (bcs l) = .int .i64 i :: bcs (Dk.pad l) := by
  unfold splice
  rw [bcs_len, show 1 + l.length = l.length + 1 by omega, List.drop_succ_cons]
  show [Value.int .i64 i] ++ (bcs l ++ (List.map B (List.replicate 32 0)).drop l.length) = _
  rw [List.map_replicate, List.drop_replicate]
  unfold Dk.pad bcs
  rw [List.map_append, List.map_replicate]
  rfl
theorem scs_len {n : Nat} : ∀ (l : List (Nat × List UInt8)), l.length = n → (∀ s ∈ l, s.2.length = 32) → (scs l).length = n * 33
  | [], h, _ => by subst h; rfl
  | s :: r, h, hl => by
    obtain ⟨m, rfl⟩ : ∃ m, n = m + 1 := ⟨n - 1, by simp at h; omega⟩
    have ih := scs_len (n := m) r (by simpa using h) (fun x hx => hl x (by simp [hx]))
    have e : scs (s :: r) = (.int .i64 (s.1 : Int) :: bcs s.2) ++ scs r := by simp [scs]
    rw [e, List.length_append, ih, List.length_cons, bcs_len, hl s (by simp)]
    omega
theorem fill_staged (c : Array Value) (hc : c.size = 33) : Instr.fill (fun i => some (i * 33, 33)) ((Array.range (1 * 33)).map (zS[· % zS.size]!)) [(0, .agg c)] = some c := by
  have h := Great.fill_whole (s := 33) (by omega) [.agg c] ((Array.range (1 * 33)).map (zS[· % zS.size]!)) (fun v hv => by rw [List.mem_singleton] at hv; rw [hv]; exact hc) (by simp)
  have e : ([Value.agg c].flatMap fun v => v.cells.toList).toArray = c := by simp [Value.cells]
  rw [e] at h
  exact h
end Go.Proofs.YtkmljbbnpjlehaaDoor
