/- What the calls New and Faults of package disk do. No condition. An append of any slice (none too) to a row of the call's own, and what the call Faults of package disk does, for plans of at most 1048576 bools. -/
import Derived.Test.YtfceljbmdcbciaaDoorMg19
namespace Go.Proofs.YtfceljbmdcbciaaDoor
set_option maxRecDepth 8000
open Go.RowKit

theorem Tryd.infoBlock : (Tryd.prog.info? 119).map (fun i => (i.zero, i.size, i.bytes)) = some (some (.agg (List.replicate 32 (B 0)).toArray), 32, 32) := by kernel_rfl
theorem Tryd.infoStaged : (Tryd.prog.info? 121).map (fun i => (i.zero, i.size, i.bytes)) = some (some (.agg (.int .i64 0 :: List.replicate 32 (B 0)).toArray), 33, 40) := by kernel_rfl
theorem Tryd.infoBool : (Tryd.prog.info? 4).map (fun i => (i.zero, i.size, i.bytes)) = some (some (.bool false), 1, 1) := by kernel_rfl
theorem rep_get (v : Value) (j : Nat) (hj : j < 32) : (List.replicate 32 v).toArray[j]! = v := by
  rw [getElem!_pos _ _ (by simpa using hj)]
  simp only [List.getElem_toArray, List.getElem_replicate]
theorem made_blocks (n : Nat) : madeCells (Value.agg (List.replicate 32 (B 0)).toArray).cells (n * 32) = (bcs (List.replicate (32 * n) 0)).toArray := by
  apply Array.ext
  · rw [size_madeCells]; simp [bcs_len]; omega
  · intro i h1 h2
    have h3 : i % 32 < 32 := Nat.mod_lt _ (by decide)
    have e1 : (madeCells (Value.agg (List.replicate 32 (B 0)).toArray).cells (n * 32))[i] = (List.replicate 32 (B 0)).toArray[i % 32]! := by
      show ((Array.range (n * 32)).map fun x => (List.replicate 32 (B 0)).toArray[x % (List.replicate 32 (B 0)).toArray.size]!)[i]'(by simpa [madeCells] using h1) = _
      rw [Array.getElem_map, Array.getElem_range]
      rfl
    rw [e1, rep_get _ _ h3]
    simp only [bcs, List.getElem_toArray, List.map_replicate, List.getElem_replicate]

def MadePost (w : World) (d : Dk.D) (e : Ending) (w' : World) : Prop :=
  ∃ a, e = .returned (.pointer (some ⟨a.P, 0, none⟩)) ∧ DAt w' a d ∧ There w' a ∧ Below w.heap.size w w' ∧ ∀ x ∈ a.F, w.heap.size ≤ x

theorem made_at (w : World) (m : Nat) (l : List UInt8) (hm : m ≤ 512) (hl : l.length = 32 * m) :
    MadePost w ⟨m, l, [], [], -1⟩ (.returned (.pointer (some ⟨w.heap.size + 1, 0, none⟩))) ((w.alloc (.cells (bcs l).toArray 119)).alloc (.cells #[.slice (some ⟨w.heap.size, 0, none⟩) m m, .slice none 0 0, .slice none 0 0, .int .i64 (-1)] 80)) := by
  have hsz : (w.alloc (.cells (bcs l).toArray 119)).heap.size = w.heap.size + 1 := by simp
  refine ⟨⟨w.heap.size + 1, w.heap.size, none, 0, none, 0⟩, rfl, ⟨⟨hm, hl, fun s hs => by cases hs⟩, ?_, ?_, World.ownsRow_nil _ _ _ _, fun h => absurd h (by simp), by simp, by simp⟩, ⟨?_⟩, ((Below.refl _ _).alloc (Nat.le_refl _) _).alloc (by simp) _, ?_⟩
  · rw [← hsz]; exact heap_alloc_new _ _
  · rw [Below.heap_alloc _ _ _ (by simp)]; exact heap_alloc_new w _
  · intro x hx
    simp [Mm.F, blkOf] at hx
    simp
    omega
  · intro x hx
    simp [Mm.F, blkOf] at hx
    omega

set_option maxHeartbeats 800000 in
theorem new_any (w : World) (n : Int) : Calls Tryd.prog 10 #[.int .i64 n] w (MadePost w (Dk.new n)) := by
  obtain ⟨i0, hi0, hz0, hz1, hz2⟩ := info_parts Tryd.infoBlock
  have hgo : ∀ m : Nat, (min (max n 0) 512).toNat = m → m ≤ 512 → MadePost w (Dk.new n) (.returned (.pointer (some ⟨w.heap.size + 1, 0, none⟩))) ((w.alloc (.cells (bcs (List.replicate (32 * m) 0)).toArray 119)).alloc (.cells #[.slice (some ⟨w.heap.size, 0, none⟩) m m, .slice none 0 0, .slice none 0 0, .int .i64 (-1)] 80)) := by
    rintro m rfl hm
    exact made_at w _ _ hm (by simp)
  have hmk : ∀ (m : Nat), m ≤ 512 → (Instr.makeSlice 77 (.int .i64 (m : Int)) (.int .i64 (m : Int))).run Tryd.prog w = .ok (.slice (some ⟨w.heap.size, 0, none⟩) m m) (w.alloc (.cells (bcs (List.replicate (32 * m) 0)).toArray 119)) := by
    intro m hm
    have := run_make (P := Tryd.prog) w 77 119 i0 _ Tryd.underlying77 hi0 hz0 .i64 .i64 m m (by omega) (Int.le_refl _) (by rw [hz2]; omega) (by omega)
    rw [hz1, Int.toNat_natCast, made_blocks] at this
    exact this
  by_cases h0 : n < 0
  · have HG := Lib.hid (hgo 0 (by omega) (by omega))
    have HM : (Instr.makeSlice 77 (.int .i64 0) (.int .i64 0)).run Tryd.prog w = _ := hmk 0 (by omega)
    have h0' : ¬ 0 ≤ n := by omega
    clear hgo hmk
    go_enter Tryd.func10, Tryd.ntmps10
    go_wp2_with fail
    go_ret
    exact HG.out
  · by_cases h1 : n ≤ 512
    · obtain ⟨m, rfl⟩ := Int.eq_ofNat_of_zero_le (show 0 ≤ n by omega)
      have HG := Lib.hid (hgo m (by omega) (by omega))
      have HM := hmk m (by omega)
      have h0' : 0 ≤ (m : Int) := by omega
      have h1' : ¬ 512 < (m : Int) := by omega
      clear hgo hmk
      go_enter Tryd.func10, Tryd.ntmps10
      go_wp2_with fail
      go_ret
      exact HG.out
    · have HG := Lib.hid (hgo 512 (by omega) (by omega))
      have HM : (Instr.makeSlice 77 (.int .i64 512) (.int .i64 512)).run Tryd.prog w = .ok (.slice (some ⟨w.heap.size, 0, none⟩) 512 512) (w.alloc (.cells (bcs (List.replicate (32 * 512) 0)).toArray 119)) := hmk 512 (by omega)
      obtain ⟨Z, hZ⟩ : ∃ Z, Z = List.replicate (32 * 512) (0 : UInt8) := ⟨_, rfl⟩
      rw [← hZ] at HG HM
      have h0' : 0 ≤ n := by omega
      have h1' : 512 < n := by omega
      clear hgo hmk hZ
      go_enter Tryd.func10, Tryd.ntmps10
      go_wp2_with fail
      go_ret
      exact HG.out
end Go.Proofs.YtfceljbmdcbciaaDoor
namespace Go.Proofs.YtfceljbmdcbciaaDoor
set_option maxRecDepth 8000
open Go.RowKit

theorem run_append_gen {P : Program} (w : World) (base : Nat) (t ty e : TypeId) (i : TypeInfo) (z : Value) (size bytes : Nat) (ht : P.underlying t = some (.slice e)) (hi : P.info? e = some i) (hz : i.zero = some z)
    (hsize : i.size = size) (hby : i.bytes = bytes) (hzs : z.cells.size = size) (hsz : 0 < size)
    (v : Value) (n : Nat) (xs : List Value) (hown : w.ownsRow base e size v n xs)
    (A : Option Addr) (m c : Nat) (news : List Value) (hl : news.length = m * size) (hnews : 0 < m → ∃ ad, A = some ad ∧ ∀ j u, news[j]? = some u → w.cell? (ad.add j) = some u) (h1 : ∀ u ∈ news, u.oneCell' = true)
    (h63 : n + m ≤ maxLen) (hbytes : (n + m) * bytes ≤ 140737488355328) (hbase : base ≤ w.heap.size) :
    ∃ v' w', (Builtin.append_ #[t, t] ty #[v, .slice A m c]).run P w = .ok v' w' ∧ w'.ownsRow base e size v' (n + m) (xs ++ news) ∧ w.grownBy w' v.ownBlock ∧ (v'.ownBlock = v.ownBlock ∨ v'.ownBlock = some w.heap.size) := by
  by_cases hm : 0 < m
  · obtain ⟨ad, rfl, hn⟩ := hnews hm
    obtain ⟨v', w', h2, h3, h4, _, h5⟩ := run_append_own_at (P := P) w base t ty e i z size bytes ht hi hz hsize hby hzs hsz v n xs hown ad m c news hl hn h1 h63 hbytes hbase
    exact ⟨v', w', h2, h3, h4, h5⟩
  · have hm0 : m = 0 := by omega
    subst hm0
    have hn : news = [] := List.eq_nil_of_length_eq_zero (by simpa using hl)
    subst hn
    rcases A with _ | ad
    · refine ⟨v, w, ?_, by rw [Nat.add_zero, List.append_nil]; exact hown, World.grownBy.refl w _, .inl rfl⟩
      rcases hown.2 with ⟨rfl, hn⟩ | ⟨g, cap, cur, rfl, _, _, hnc, _⟩
      · simp [Builtin.append_, run_underlying ht, sizeOf, typeInfo, hi, Builtin.lenOf, Builtin.firstCells]
      · simp [Builtin.append_, run_underlying ht, sizeOf, typeInfo, hi, Builtin.lenOf, Builtin.firstCells, hnc, storeCells]
    · obtain ⟨v', w', h2, h3, h4, _, h5⟩ := run_append_own_at (P := P) w base t ty e i z size bytes ht hi hz hsize hby hzs hsz v n xs hown ad 0 c [] hl (fun j u hu => by simp at hu) h1 h63 hbytes hbase
      exact ⟨v', w', h2, h3, h4, h5⟩

theorem wpList_append_gen {P : Program} {w : World} {ops : Array Oper} {rest : List Oper} {o : Oper} {a : Act} {Q : Exit → Act → World → Prop} (hgd : o.guard = none) (s x : Operand) (t : TypeId)
    (ho : o.op = .call { callee := .builtin .append, args := #[s, x], argTypes := #[t, t] })
    (base : Nat) (e : TypeId) (i : TypeInfo) (z : Value) (size bytes : Nat) (ht : P.underlying t = some (.slice e)) (hi : P.info? e = some i) (hz : i.zero = some z)
    (hsize : i.size = size) (hby : i.bytes = bytes) (hzs : z.cells.size = size) (hsz : 0 < size)
    (v : Value) (n : Nat) (xs : List Value) (hs : a.eval s = v) (hown : w.ownsRow base e size v n xs)
    (A : Option Addr) (m c : Nat) (news : List Value) (hx : a.eval x = .slice A m c) (hl : news.length = m * size) (hnews : 0 < m → ∃ ad, A = some ad ∧ ∀ j u, news[j]? = some u → w.cell? (ad.add j) = some u) (h1 : ∀ u ∈ news, u.oneCell' = true)
    (h63 : n + m ≤ maxLen) (hbytes : (n + m) * bytes ≤ 140737488355328) (hbase : base ≤ w.heap.size)
    (h : ∀ v' w', w'.ownsRow base e size v' (n + m) (xs ++ news) → w.grownBy w' v.ownBlock → (v'.ownBlock = v.ownBlock ∨ v'.ownBlock = some w.heap.size) → wpList P ops Q rest (a.put o.dst v') w') :
    wpList P ops Q (o :: rest) a w := by
  refine wpList_plain hgd fun K hK => ?_
  obtain ⟨v', w', hr, h2, h3, h5⟩ := run_append_gen (P := P) w base t o.type e i z size bytes ht hi hz hsize hby hzs hsz v n xs hown A m c news hl hnews h1 h63 hbytes hbase
  unfold Oper.wp execOp
  simp only [ho, resolve, invoke, builtin, Sem.run_bind, Sem.run_pure, Result.andThen_ok, List.map_toArray, List.map_cons, List.map_nil, hs, hx, hr]
  exact hK _ _ (h v' w' h2 h3 h5)
/-- The form of an owned row. -/
theorem own_form {w : World} {base : Nat} {e : TypeId} {size n : Nat} {v : Value} {xs : List Value} (h : w.ownsRow base e size v n xs) : ∃ A cap, v = .slice A n cap ∧ n ≤ cap ∧ cap ≤ maxLen ∧ (0 < n → ∃ g, A = some ⟨g, 0, none⟩) ∧ (∀ x ∈ blkOf A, base ≤ x ∧ x < w.heap.size ∧ ∃ cur, w.heap[x]? = some (.cells cur e (0, 0))) := by
  rcases h.2 with ⟨rfl, rfl⟩ | ⟨g, cap, cur, rfl, hb, hg, hc, hm, _⟩
  · exact ⟨none, 0, rfl, Nat.le_refl _, by unfold maxLen; omega, fun h => absurd h (by omega), fun x hx => by cases hx⟩
  · refine ⟨_, cap, rfl, hc, hm, fun _ => ⟨g, rfl⟩, fun x hx => ?_⟩
    simp [blkOf] at hx
    subst hx
    exact ⟨hb, lt_of_blk' hg, cur, hg⟩
theorem own_empty (w : World) (base : Nat) (e : TypeId) (size : Nat) (hb : base ≤ w.heap.size) (n : Nat) (hn : n = w.heap.size) : (w.alloc (.cells #[] e)).ownsRow base e size (.slice (some ⟨n, 0, none⟩) 0 0) 0 [] := by
  subst hn
  exact ⟨by simp, .inr ⟨w.heap.size, 0, #[], rfl, hb, heap_alloc_new w _, Nat.le_refl _, Nat.zero_le _, by simp, by simp⟩⟩

/-- A row of bools that came in. -/
def PlanIn (w : World) (A : Option Addr) (cap : Nat) (p : List Bool) : Prop := (A = none → p = [] ∧ cap = 0) ∧ p.length ≤ 1048576 ∧ (0 < p.length → ∃ b off, A = some ⟨b, off, none⟩ ∧ b < w.heap.size ∧ ∀ k (h : k < p.length), w.cell? ⟨b, off + k, none⟩ = some (.bool p[k]))
def ClonePost (w : World) (p : List Bool) (e : Ending) (w' : World) : Prop :=
  ∃ G cG, e = .returned (.slice G p.length cG) ∧ BoC w' G p ∧ p.length ≤ cG ∧ cG ≤ 9223372036854775807 ∧ (∀ x ∈ blkOf G, w.heap.size ≤ x ∧ x < w'.heap.size) ∧ Below w.heap.size w w'
theorem boc_own {w : World} {base : Nat} {G : Option Addr} {cG : Nat} {p : List Bool} {n : Nat} (h : w.ownsRow base 4 1 (.slice G n cG) n (p.map .bool)) : BoC w G p := fun hn => by
  have hn' : n = p.length := by have := h.1; simp at this; omega
  obtain ⟨A, cap, e, _, _, hA, hblk⟩ := own_form h
  injection e with e1 _ _
  subst e1
  obtain ⟨g, rfl⟩ := hA (by omega)
  obtain ⟨_, hlt, cur, hg⟩ := hblk g (by simp [blkOf])
  refine ⟨g, 0, rfl, hlt, ⟨cur, _, hg⟩, fun k hk => ?_⟩
  have := h.cells (g := g) rfl k (.bool p[k]) (by simp [hk])
  rw [Addr.add_mid] at this
  exact this

set_option maxHeartbeats 800000 in
theorem clone_any (w : World) (A : Option Addr) (cap : Nat) (p : List Bool) (hp : PlanIn w A cap p) :
    Calls Tryd.prog 68 #[.slice A p.length cap] w (ClonePost w p) := by
  obtain ⟨hA, hl, hc⟩ := hp
  obtain ⟨i0, hi0, hz0, hz1, hz2⟩ := info_parts Tryd.infoBool
  rcases A with _ | ad
  · obtain ⟨rfl, rfl⟩ := hA rfl
    have HN := Lib.run_eql_slice_nil (P := Tryd.prog) w 38 4 none 0 0 0 0 Tryd.underlying38
    have HE : Hid (ClonePost w [] (.returned (.slice none 0 0)) w) := Lib.hid ⟨none, 0, rfl, fun h => absurd h (by simp), by simp, by simp, (fun x hx => by cases hx), Below.refl _ _⟩
    clear hc hl hA
    rw [List.length_nil]
    go_enter Tryd.func68, Tryd.ntmps68
    go_wp2
    go_ret
    exact HE.out
  · have HN := Lib.run_eql_slice_nil (P := Tryd.prog) w 38 4 (some ad) p.length cap 0 0 Tryd.underlying38
    have HC : Hid (0 < p.length → ∃ x, some ad = some x ∧ ∀ j u, (p.map Value.bool)[j]? = some u → w.cell? (x.add j) = some u) := Lib.hid (fun hn => by
      obtain ⟨b, off, e, _, hcell⟩ := hc hn
      refine ⟨ad, rfl, fun j u hu => ?_⟩
      injection e with e
      have hj : j < p.length := by have := (List.getElem?_eq_some_iff.1 hu).1; simpa using this
      rw [e, Addr.add_mid, hcell j hj]
      simpa [List.getElem?_eq_getElem hj] using hu)
    have HB : Hid (∀ j (x : Addr), x.block < w.heap.size → ((w.alloc (.cells #[] 4)).cell? (x.add j)) = w.cell? (x.add j)) := Lib.hid (fun j x hx => World.cell?_alloc_lt w _ _ (by unfold Addr.add; split <;> exact hx))
    have HLT : Hid (0 < p.length → ad.block < w.heap.size) := Lib.hid (fun hn => by
      obtain ⟨b, off, e, hb, _⟩ := hc hn
      injection e with e
      rw [e]; exact hb)
    clear hc hA
    have hone : ∀ u ∈ p.map Value.bool, u.oneCell' = true := by
      intro u hu
      obtain ⟨c, _, rfl⟩ := List.mem_map.1 hu
      rfl
    have hb0 : Below w.heap.size w (w.alloc (.cells #[] 4)) := (Below.refl _ _).alloc (Nat.le_refl _) _
    obtain ⟨news, hnw⟩ : ∃ news, news = p.map Value.bool := ⟨_, rfl⟩
    rw [← hnw] at HC hone
    have hnl : news.length = p.length * 1 := by rw [hnw]; simp
    have HNW := Lib.hid hnw
    clear hnw
    have HNL := Lib.hid hnl
    clear hnl
    go_enter Tryd.func68, Tryd.ntmps68
    go_wp2_with (at_builtin; refine wpList_append_gen rfl _ _ 38 rfl w.heap.size 4 i0 (.bool false) 1 1 Tryd.underlying38 hi0 hz0 hz1 hz2 rfl (by omega) (.slice (some ⟨w.heap.size, 0, none⟩) 0 0) 0 [] rfl (own_empty w _ _ _ (Nat.le_refl _) _ rfl) (some ad) p.length cap news rfl HNL.out (fun hn => by obtain ⟨x, e, h⟩ := HC.out hn; cases e; exact ⟨ad, rfl, fun j u hu => (HB.out j ad (HLT.out hn)).trans (h j u hu)⟩) hone (by unfold maxLen; omega) (by omega) (by simp) ?_; intro v1 w1 hown1 hgrow1 hat1; rw [Nat.zero_add, List.nil_append] at hown1; obtain ⟨G, cG, rfl, hcG, hmax, _, hblk⟩ := own_form hown1; clear hat1)
    go_ret
    rw [HNW.out] at hown1
    refine ⟨G, cG, rfl, boc_own hown1, by omega, by unfold maxLen at hmax; omega, fun x hx => ⟨(hblk x hx).1, (hblk x hx).2.1⟩, ?_⟩
    exact hb0.grown hgrow1 (by simp) (fun q hq => by simp [Value.ownBlock] at hq; omega)

set_option maxHeartbeats 800000 in
theorem faults_any (w : World) (a : Mm) (d : Dk.D) (A : Option Addr) (cap : Nat) (p : List Bool) (h : DAt w a d) (ht : There w a) (hp : PlanIn w A cap p) :
    Calls Tryd.prog 33 #[.pointer (some ⟨a.P, 0, none⟩), .slice A p.length cap] w (NoPost w a { d with plan := p }) := by
  have HC := clone_any w A cap p hp
  have HH := Lib.hid h
  have HT := Lib.hid ht
  obtain ⟨n, hn⟩ : ∃ n, n = p.length := ⟨_, rfl⟩
  rw [← hn] at HC ⊢
  have HNN := Lib.hid hn
  clear hn hp h ht
  go_enter Tryd.func33, Tryd.ntmps33
  go_wp2_with fail
  refine HC.mono ?_
  rintro e w1 ⟨G, cG, rfl, hbo, hc1, hc2, hblk, hb⟩
  have h1 := HH.out.same (fun x hx => hb.block x (HT.out.all x hx))
  have t1 := HT.out.more hb.size
  have f2 := h1.fr 2
  have c2 := h1.c.2.2.1
  have HS : Hid (Step w a { d with plan := p } (w1.setCell ⟨a.P, 2, none⟩ (.slice G p.length cG))) := Lib.hid (by
    obtain ⟨a', p1, p2, p3, p4, p5⟩ := step_plan h1 t1 G cG p hbo ⟨hc1, hc2⟩ (fun x hx => (hblk x hx).2) w.heap.size hb.size (fun x hx => .inr (hblk x hx).1)
    exact ⟨a', p1, p2, p3, p4, (Out.of hb).setCell (.inl ((mem_F a _).2 (.inl rfl))) _, p5⟩)
  clear h1 t1 hblk hb hc1 hc2 hbo HC
  go_wp2
  go_end0
  exact ⟨rfl, HS.out⟩
end Go.Proofs.YtfceljbmdcbciaaDoor
