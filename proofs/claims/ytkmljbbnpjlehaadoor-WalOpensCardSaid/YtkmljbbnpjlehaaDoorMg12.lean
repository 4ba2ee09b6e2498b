/- What the calls fails, Drop, Stop and Faults of package disk do, for any disk. No condition. What the calls New and Faults of package disk do. No condition. -/
import Derived.Test.YtkmljbbnpjlehaaDoorMg11
import Derived.Lib.SliceRun
namespace Go.Proofs.YtkmljbbnpjlehaaDoor
set_option maxRecDepth 8000
open Go.RowKit

theorem setP_heap {w : World} {P : Nat} {cs : Array Value} {t : TypeId} (h : w.heap[P]? = some (.cells cs t (0, 0))) (j : Nat) (v : Value) : (w.setCell ⟨P, j, none⟩ v).heap[P]? = some (.cells (cs.setIfInBounds j v) t (0, 0)) := heap_setCell_same w P j cs t v h
theorem setP_other (w : World) (P j : Nat) (v : Value) (x : Nat) (h : x ≠ P) : (w.setCell ⟨P, j, none⟩ v).heap[x]? = w.heap[x]? := Below.heap_setCell w ⟨P, j, none⟩ v x h
theorem There.setP {w : World} {a : Mm} (h : There w a) (p : Addr) (v : Value) : There (w.setCell p v) a := ⟨fun x hx => by rw [World.size_setCell]; exact h.all x hx⟩
theorem sub_F {a a' : Mm} (hP : a'.P = a.P) (hk : a'.k = a.k) (hS : ∀ x ∈ blkOf a'.S, x ∈ blkOf a.S) (hG : ∀ x ∈ blkOf a'.G, x ∈ blkOf a.G) : ∀ x ∈ a'.F, x ∈ a.F := by
  intro x hx
  rw [mem_F] at hx ⊢
  rw [hP, hk] at hx
  rcases hx with h | h | h | h
  · exact .inl h
  · exact .inr (.inl h)
  · exact .inr (.inr (.inl (hS x h)))
  · exact .inr (.inr (.inr (hG x h)))

/-- The number of calls that are left is set. -/
theorem step_left {w : World} {a : Mm} {d : Dk.D} (h : DAt w a d) (ht : There w a) (x : Int) (hx : x ≤ 9223372036854775807 ∧ -9223372036854775808 ≤ x) : Step w a { d with left := x } (w.setCell ⟨a.P, 3, none⟩ (.int .i64 x)) :=
  ⟨a, rfl, rfl, h.setP ht rfl rfl rfl rfl ⟨h.ok.n, h.ok.kept, h.ok.st⟩ (setP_heap h.disk 3 _) (fun y _ hy => setP_other w a.P 3 _ y hy) (own_past (d := d) h ht (fun y _ hy => setP_other w a.P 3 _ y hy) :) (h.plan.past h.disk (by decide) (fun y _ hy => setP_other w a.P 3 _ y hy)) h.cap hx,
    ht.setP _ _, (Out.refl _ _).setCell (.inl ((mem_F a _).2 (.inl rfl))) _, fun _ hx => .inl hx⟩
/-- Nothing is staged any more. -/
theorem step_drop {w : World} {a : Mm} {d : Dk.D} (h : DAt w a d) (ht : There w a) : Step w a { d with st := [] } (w.setCell ⟨a.P, 1, none⟩ (.slice none 0 0)) := by
  have hsub : ∀ x ∈ ({ a with S := none, cS := 0 } : Mm).F, x ∈ a.F := sub_F rfl rfl (fun _ hx => by cases hx) (fun _ hx => hx)
  exact ⟨{ a with S := none, cS := 0 }, rfl, rfl, h.setP (a' := { a with S := none, cS := 0 }) ht rfl rfl rfl rfl ⟨h.ok.n, h.ok.kept, fun s hs => by cases hs⟩ (setP_heap h.disk 1 _) (fun y _ hy => setP_other w a.P 1 _ y hy) (World.ownsRow_nil _ _ _ _) (h.plan.past h.disk (by decide) (fun y _ hy => setP_other w a.P 1 _ y hy)) h.cap h.left,
    ⟨fun x hx => by rw [World.size_setCell]; exact ht.all x (hsub x hx)⟩, (Out.refl _ _).setCell (.inl ((mem_F a _).2 (.inl rfl))) _, fun x hx => .inl (hsub x hx)⟩
/-- The plan is set. -/
theorem step_plan {w : World} {a : Mm} {d : Dk.D} (h : DAt w a d) (ht : There w a) (G : Option Addr) (cG : Nat) (p : List Bool) (hp : BoC w G p) (hcap : p.length ≤ cG ∧ cG ≤ 9223372036854775807) (hG : ∀ x ∈ blkOf G, x < w.heap.size) (base : Nat) (_hb : base ≤ w.heap.size) (hF : ∀ x ∈ blkOf G, x ∈ a.F ∨ base ≤ x) :
    ∃ a', a'.P = a.P ∧ a'.k = a.k ∧ DAt (w.setCell ⟨a.P, 2, none⟩ (.slice G p.length cG)) a' { d with plan := p } ∧ There (w.setCell ⟨a.P, 2, none⟩ (.slice G p.length cG)) a' ∧ ∀ x ∈ a'.F, x ∈ a.F ∨ base ≤ x := by
  refine ⟨{ a with G := G, cG := cG }, rfl, rfl, h.setP (a' := { a with G := G, cG := cG }) ht rfl rfl rfl rfl ⟨h.ok.n, h.ok.kept, h.ok.st⟩ (setP_heap h.disk 2 _) (fun y _ hy => setP_other w a.P 2 _ y hy) (own_past (a := a) (d := d) h ht (fun y _ hy => setP_other w a.P 2 _ y hy) :) (hp.past h.disk (by decide) (fun y _ hy => setP_other w a.P 2 _ y hy)) hcap h.left, ⟨fun x hx => ?_⟩, fun x hx => ?_⟩
  · rw [World.size_setCell]
    rcases (mem_F _ _).1 hx with rfl | rfl | hx | hx
    · exact ht.all _ ((mem_F a _).2 (.inl rfl))
    · exact ht.all _ ((mem_F a _).2 (.inr (.inl rfl)))
    · exact ht.all _ ((mem_F a _).2 (.inr (.inr (.inl hx))))
    · exact hG x hx
  · rcases (mem_F _ _).1 hx with rfl | rfl | hx | hx
    · exact .inl ((mem_F a _).2 (.inl rfl))
    · exact .inl ((mem_F a _).2 (.inr (.inl rfl)))
    · exact .inl ((mem_F a _).2 (.inr (.inr (.inl hx))))
    · exact hF x hx

def NoPost (w : World) (a : Mm) (d' : Dk.D) (e : Ending) (w' : World) : Prop := e = .returned (.tuple #[]) ∧ Step w a d' w'

theorem drop_any (w : World) (a : Mm) (d : Dk.D) (h : DAt w a d) (ht : There w a) :
    Calls Tryd.prog 113 #[.pointer (some ⟨a.P, 0, none⟩)] w (NoPost w a d.drop) := by
  have HO := on_any w a d h
  have c1 := h.c.2.1
  have f1 := h.fr 1
  by_cases h0 : d.left = 0
  · have HS : Hid (Step w a d.drop w) := Lib.hid (by unfold Dk.D.drop; rw [if_pos h0]; exact Step.quiet h ht (Below.refl _ _))
    have e1 : d.on = false := by unfold Dk.D.on; simp [h0]
    rw [e1] at HO
    clear h0 e1
    go_enter Tryd.func113, Tryd.ntmps113
    go_wp2_with fail
    refine HO.mono ?_
    rintro e w' ⟨rfl, rfl⟩
    go_wp2
    go_end0
    exact ⟨rfl, HS.out⟩
  · have HS : Hid (Step w a d.drop (w.setCell ⟨a.P, 1, none⟩ (.slice none 0 0))) := Lib.hid (by unfold Dk.D.drop; rw [if_neg h0]; exact step_drop h ht)
    have e1 : d.on = true := by unfold Dk.D.on; simp [h0]
    rw [e1] at HO
    clear h0 e1
    go_enter Tryd.func113, Tryd.ntmps113
    go_wp2_with fail
    refine HO.mono ?_
    rintro e w' ⟨rfl, rfl⟩
    go_wp2
    go_end0
    exact ⟨rfl, HS.out⟩

theorem stop_any (w : World) (a : Mm) (d : Dk.D) (n : Int) (h : DAt w a d) (ht : There w a) (hn : n ≤ 9223372036854775807 ∧ -9223372036854775808 ≤ n) :
    Calls Tryd.prog 34 #[.pointer (some ⟨a.P, 0, none⟩), .int .i64 n] w (NoPost w a (d.stop n)) := by
  have HO := on_any w a d h
  have c1 := h.c.2.2.2
  have f1 := h.fr 3
  by_cases h0 : d.left = 0
  · have HS : Hid (Step w a (d.stop n) w) := Lib.hid (by unfold Dk.D.stop; rw [if_pos h0]; exact Step.quiet h ht (Below.refl _ _))
    have e1 : d.on = false := by unfold Dk.D.on; simp [h0]
    rw [e1] at HO
    clear h0 e1
    go_enter Tryd.func34, Tryd.ntmps34
    go_wp2_with fail
    refine HO.mono ?_
    rintro e w' ⟨rfl, rfl⟩
    go_wp2
    go_end0
    exact ⟨rfl, HS.out⟩
  · have HS : Hid (Step w a (d.stop n) (w.setCell ⟨a.P, 3, none⟩ (.int .i64 n))) := Lib.hid (by unfold Dk.D.stop; rw [if_neg h0]; exact step_left h ht n hn)
    have e1 : d.on = true := by unfold Dk.D.on; simp [h0]
    rw [e1] at HO
    clear h0 e1
    go_enter Tryd.func34, Tryd.ntmps34
    go_wp2_with fail
    refine HO.mono ?_
    rintro e w' ⟨rfl, rfl⟩
    go_wp2
    go_end0
    exact ⟨rfl, HS.out⟩

/-- The plan's next is taken away. -/
theorem step_next {w : World} {a : Mm} {d : Dk.D} (h : DAt w a d) (ht : There w a) (q : Bool) (r : List Bool) (hp : d.plan = q :: r) :
    Step w a { d with plan := r } (w.setCell ⟨a.P, 2, none⟩ (.slice (if a.cG = 1 then a.G else a.G.map (·.add 1)) r.length (a.cG - 1))) := by
  have hpl := h.plan (by rw [hp]; simp)
  obtain ⟨b, off, hG, hb, hblk, hc⟩ := hpl
  have hcap := h.cap
  rw [hp] at hcap
  simp only [List.length_cons] at hcap
  have hbl : ∀ x ∈ blkOf (if a.cG = 1 then a.G else a.G.map (·.add 1)), x = b := by
    intro x hx
    rw [hG] at hx
    split at hx
    · simpa [blkOf] using hx
    · simp only [Option.map_some, Addr.add_mid, blkOf, List.mem_singleton] at hx
      exact hx
  have hbo : BoC w (if a.cG = 1 then a.G else a.G.map (·.add 1)) r := fun hr => by
    rw [if_neg (by omega), hG]
    refine ⟨b, off + 1, by simp [Addr.add_mid], hb, hblk, fun k hk => ?_⟩
    have := hc (k + 1) (by rw [hp]; simpa using hk)
    rw [Nat.add_assoc, Nat.add_comm 1 k, this]
    simp [hp]
  have hmem : b ∈ a.F := (mem_F a _).2 (.inr (.inr (.inr (by rw [hG]; simp [blkOf]))))
  obtain ⟨a', h1, h2, h3, h4, h5⟩ := step_plan h ht _ (a.cG - 1) r hbo (by omega) (fun x hx => by rw [hbl x hx]; exact hb) w.heap.size (Nat.le_refl _) (fun x hx => .inl (by rw [hbl x hx]; exact hmem))
  exact ⟨a', h1, h2, h3, h4, (Out.refl _ _).setCell (.inl ((mem_F a _).2 (.inl rfl))) _, h5⟩
theorem Step.trans {w w1 w2 : World} {a : Mm} {d1 d2 : Dk.D} (h1 : Step w a d1 w1) (h2 : ∀ a1, a1.P = a.P → a1.k = a.k → DAt w1 a1 d1 → There w1 a1 → Step w1 a1 d2 w2) : Step w a d2 w2 := by
  obtain ⟨a1, p1, k1, at1, t1, o1, f1⟩ := h1
  obtain ⟨a2, p2, k2, at2, t2, o2, f2⟩ := h2 a1 p1 k1 at1 t1
  refine ⟨a2, p2.trans p1, k2.trans k1, at2, t2, o1.trans o2 f1, fun x hx => ?_⟩
  rcases f2 x hx with h | h
  · exact f1 x h
  · exact .inr (Nat.le_trans o1.size h)
def BoolPost (w : World) (a : Mm) (b : Bool) (d' : Dk.D) (e : Ending) (w' : World) : Prop := e = .returned (.bool b) ∧ Step w a d' w'

/-- Two steps of which the first leaves the disk where it was. -/
theorem Step.at {w w1 w2 : World} {a : Mm} {d1 d2 : Dk.D} (h1 : DAt w1 a d1 ∧ There w1 a ∧ Out a.F w w1) (h2 : DAt w1 a d1 → There w1 a → Step w1 a d2 w2) : Step w a d2 w2 := by
  obtain ⟨at1, t1, o1⟩ := h1
  obtain ⟨a2, p2, k2, at2, t2, o2, f2⟩ := h2 at1 t1
  refine ⟨a2, p2, k2, at2, t2, o1.trans o2 (fun _ hx => .inl hx), fun x hx => ?_⟩
  rcases f2 x hx with h | h
  · exact .inl h
  · exact .inr (Nat.le_trans o1.size h)
theorem at_left {w : World} {a : Mm} {d : Dk.D} (h : DAt w a d) (ht : There w a) (x : Int) (hx : x ≤ 9223372036854775807 ∧ -9223372036854775808 ≤ x) : DAt (w.setCell ⟨a.P, 3, none⟩ (.int .i64 x)) a { d with left := x } ∧ There (w.setCell ⟨a.P, 3, none⟩ (.int .i64 x)) a ∧ Out a.F w (w.setCell ⟨a.P, 3, none⟩ (.int .i64 x)) :=
  ⟨h.setP ht rfl rfl rfl rfl ⟨h.ok.n, h.ok.kept, h.ok.st⟩ (setP_heap h.disk 3 _) (fun y _ hy => setP_other w a.P 3 _ y hy) (own_past (d := d) h ht (fun y _ hy => setP_other w a.P 3 _ y hy) :) (h.plan.past h.disk (by decide) (fun y _ hy => setP_other w a.P 3 _ y hy)) h.cap hx,
    ht.setP _ _, (Out.refl _ _).setCell (.inl ((mem_F a _).2 (.inl rfl))) _⟩
theorem at_tick {w : World} {a : Mm} {d : Dk.D} (h : DAt w a d) (ht : There w a) : DAt (if 0 < d.left then w.setCell ⟨a.P, 3, none⟩ (.int .i64 (d.left - 1)) else w) a { d with left := Dk.tick d.left } ∧ There (if 0 < d.left then w.setCell ⟨a.P, 3, none⟩ (.int .i64 (d.left - 1)) else w) a ∧ Out a.F w (if 0 < d.left then w.setCell ⟨a.P, 3, none⟩ (.int .i64 (d.left - 1)) else w) := by
  unfold Dk.tick
  have hl := h.left
  by_cases hpos : 0 < d.left
  · rw [if_pos hpos, if_pos hpos]
    exact at_left h ht _ (by omega)
  · rw [if_neg hpos, if_neg hpos]
    exact ⟨h, ht, Out.refl _ _⟩
theorem at_step {w w1 : World} {a : Mm} {d : Dk.D} (h : DAt w1 a d ∧ There w1 a ∧ Out a.F w w1) : Step w a d w1 := ⟨a, rfl, rfl, h.1, h.2.1, h.2.2, fun _ hx => .inl hx⟩

set_option maxHeartbeats 800000 in
theorem fails_any (w : World) (a : Mm) (d : Dk.D) (h : DAt w a d) (ht : There w a) :
    Calls Tryd.prog 129 #[.pointer (some ⟨a.P, 0, none⟩)] w (BoolPost w a d.bad d.asked) := by
  have HO := on_any w a d h
  obtain ⟨c0, c1, c2, c3⟩ := h.c
  have f2 := h.fr 2
  have f3 := h.fr 3
  by_cases h0 : d.left = 0
  · have HS : Hid (Step w a d.asked w) := Lib.hid (by rw [Dk.asked_off d h0]; exact Step.quiet h ht (Below.refl _ _))
    have HB := Lib.hid (Dk.bad_off d h0)
    have e1 : d.on = false := by unfold Dk.D.on; simp [h0]
    rw [e1] at HO
    clear h0 e1
    go_enter Tryd.func129, Tryd.ntmps129
    go_wp2_with fail
    refine HO.mono ?_
    rintro e w' ⟨rfl, rfl⟩
    go_wp2
    go_ret
    exact ⟨ret_bool HB.out.symm, HS.out⟩
  · have e1 : d.on = true := by unfold Dk.D.on; simp [h0]
    rw [e1] at HO
    have HA := Lib.hid (Dk.asked_on d h0)
    have HB := Lib.hid (Dk.bad_on d h0)
    have hl := h.left
    have HT := at_tick h ht
    by_cases hpos : 0 < d.left
    all_goals
      first | rw [if_pos hpos] at HT | rw [if_neg hpos] at HT
      have HTT := Lib.hid HT
      clear HT
      clear e1 h0
      rcases hpl : d.plan with _ | ⟨q, r⟩
      · have HS : Hid (Step w a d.asked _) := Lib.hid (by
          rw [HA.out]
          rw [show d.plan.tail = d.plan by rw [hpl]; rfl]
          exact at_step HTT.out)
        rw [hpl] at HB c2
        rw [List.length_nil] at c2
        clear hpl
        go_enter Tryd.func129, Tryd.ntmps129
        go_wp2_with fail
        refine HO.mono ?_
        rintro e w' ⟨rfl, rfl⟩
        go_wp2
        go_ret
        exact ⟨ret_bool HB.out.symm, HS.out⟩
      · have hcap := h.cap
        have hpp := h.plan (by rw [hpl]; simp)
        obtain ⟨b, off, hG, hb, ⟨cb, frb, hblk⟩, hcell⟩ := hpp
        have hcc := hcell 0 (by rw [hpl]; simp)
        have hbP : b ≠ a.P := by
          intro e
          rw [e, h.disk] at hblk
          simp at hblk
        have hq : d.plan[0]'(by rw [hpl]; simp) = q := by simp [hpl]
        rw [hq, Nat.add_zero] at hcc
        rw [hpl] at hcap
        have HS : Hid (Step w a d.asked _) := Lib.hid (by
          rw [HA.out]
          exact Step.at HTT.out (fun at1 t1 => by rw [show d.plan.tail = r by rw [hpl]; rfl]; exact step_next at1 t1 q r hpl))
        rw [hpl] at HB c2
        rw [hG] at c2
        rw [hG] at HS
        simp only [Option.map_some, Addr.add_mid] at HS
        simp only [List.length_cons] at hcap c2
        obtain ⟨m, hm⟩ : ∃ m, m = r.length := ⟨_, rfl⟩
        rw [← hm] at hcap c2 HS
        obtain ⟨cg, hcg⟩ : ∃ cg, cg = a.cG := ⟨_, rfl⟩
        rw [← hcg] at hcap c2 HS
        obtain ⟨hcap1, hcap2⟩ := hcap
        clear hpl hm hcg hG hcell hq hblk
        by_cases hc1 : cg = 1
        · subst hc1
          have hm0 : m = 0 := by omega
          subst hm0
          go_enter Tryd.func129, Tryd.ntmps129
          go_wp2_with fail
          refine HO.mono ?_
          rintro e w' ⟨rfl, rfl⟩
          go_wp2
          go_ret
          exact ⟨ret_bool HB.out.symm, HS.out⟩
        · rw [if_neg hc1] at HS
          go_enter Tryd.func129, Tryd.ntmps129
          go_wp2_with fail
          refine HO.mono ?_
          rintro e w' ⟨rfl, rfl⟩
          go_wp2
          go_ret
          exact ⟨ret_bool HB.out.symm, HS.out⟩
end Go.Proofs.YtkmljbbnpjlehaaDoor
namespace Go.Proofs.YtkmljbbnpjlehaaDoor
set_option maxRecDepth 8000
open Go.RowKit

theorem Tryd.infoBlock : (Tryd.prog.info? 121).map (fun i => (i.zero, i.size, i.bytes)) = some (some (.agg (List.replicate 32 (B 0)).toArray), 32, 32) := by kernel_rfl
theorem Tryd.infoStaged : (Tryd.prog.info? 124).map (fun i => (i.zero, i.size, i.bytes)) = some (some (.agg (.int .i64 0 :: List.replicate 32 (B 0)).toArray), 33, 40) := by kernel_rfl
theorem Tryd.infoBool : (Tryd.prog.info? 4).map (fun i => (i.zero, i.size, i.bytes)) = some (some (.bool false), 1, 1) := by kernel_rfl
theorem rep_get (v : Value) (j : Nat) (hj : j < 32) : (List.replicate 32 v).toArray[j]! = v := by
  rw [getElem!_pos _ _ (by simpa using hj)]
  simp only [List.getElem_toArray, List.getElem_replicate]
theorem made_blocks (n : Nat) : madeCells (Value.agg (List.replicate 32 (B 0)).toArray).cells (n * 32) = (bcs (List.replicate (32 * n) 0)).toArray := by
  apply Array.ext
  · rw [size_madeCells]; simp [bcs_len]; omega
  · intro i h1 h2
    have h3 : i % 32 < 32 := Nat.mod_lt _ (by decide)
    have e1 : (madeCells (Value.agg (List.replicate 32 (B 0)).toArray).cells (n * 32))[i] = (List.replicate 32 (B 0)).toArray[i % 32]! := by
      show ((Array.range (n * 32)).map fun x => (List.replicate 32 (B 0)).toArray[x % (List.replicate 32 (B 0)).toArray.size]!)[i]'(by simpa [madeCells] using h1) = _
      rw [Array.getElem_map, Array.getElem_range]
      rfl
    rw [e1, rep_get _ _ h3]
    simp only [bcs, List.getElem_toArray, List.map_replicate, List.getElem_replicate]

def MadePost (w : World) (d : Dk.D) (e : Ending) (w' : World) : Prop :=
  ∃ a, e = .returned (.pointer (some ⟨a.P, 0, none⟩)) ∧ DAt w' a d ∧ There w' a ∧ Below w.heap.size w w' ∧ ∀ x ∈ a.F, w.heap.size ≤ x

theorem made_at (w : World) (m : Nat) (l : List UInt8) (hm : m ≤ 512) (hl : l.length = 32 * m) :
    MadePost w ⟨m, l, [], [], -1⟩ (.returned (.pointer (some ⟨w.heap.size + 1, 0, none⟩))) ((w.alloc (.cells (bcs l).toArray 121)).alloc (.cells #[.slice (some ⟨w.heap.size, 0, none⟩) m m, .slice none 0 0, .slice none 0 0, .int .i64 (-1)] 101)) := by
  have hsz : (w.alloc (.cells (bcs l).toArray 121)).heap.size = w.heap.size + 1 := by simp
  refine ⟨⟨w.heap.size + 1, w.heap.size, none, 0, none, 0⟩, rfl, ⟨⟨hm, hl, fun s hs => by cases hs⟩, ?_, ?_, World.ownsRow_nil _ _ _ _, fun h => absurd h (by simp), by simp, by simp⟩, ⟨?_⟩, ((Below.refl _ _).alloc (Nat.le_refl _) _).alloc (by simp) _, ?_⟩
  · rw [← hsz]; exact heap_alloc_new _ _
  · rw [Below.heap_alloc _ _ _ (by simp)]; exact heap_alloc_new w _
  · intro x hx
    simp [Mm.F, blkOf] at hx
    simp
    omega
  · intro x hx
    simp [Mm.F, blkOf] at hx
    omega

set_option maxHeartbeats 800000 in
theorem new_any (w : World) (n : Int) : Calls Tryd.prog 14 #[.int .i64 n] w (MadePost w (Dk.new n)) := by
  obtain ⟨i0, hi0, hz0, hz1, hz2⟩ := info_parts Tryd.infoBlock
  have hgo : ∀ m : Nat, (min (max n 0) 512).toNat = m → m ≤ 512 → MadePost w (Dk.new n) (.returned (.pointer (some ⟨w.heap.size + 1, 0, none⟩))) ((w.alloc (.cells (bcs (List.replicate (32 * m) 0)).toArray 121)).alloc (.cells #[.slice (some ⟨w.heap.size, 0, none⟩) m m, .slice none 0 0, .slice none 0 0, .int .i64 (-1)] 101)) := by
    rintro m rfl hm
    exact made_at w _ _ hm (by simp)
  have hmk : ∀ (m : Nat), m ≤ 512 → (Instr.makeSlice 98 (.int .i64 (m : Int)) (.int .i64 (m : Int))).run Tryd.prog w = .ok (.slice (some ⟨w.heap.size, 0, none⟩) m m) (w.alloc (.cells (bcs (List.replicate (32 * m) 0)).toArray 121)) := by
    intro m hm
    have := run_make (P := Tryd.prog) w 98 121 i0 _ Tryd.underlying98 hi0 hz0 .i64 .i64 m m (by omega) (Int.le_refl _) (by rw [hz2]; omega) (by omega)
    rw [hz1, Int.toNat_natCast, made_blocks] at this
    exact this
  by_cases h0 : n < 0
  · have HG := Lib.hid (hgo 0 (by omega) (by omega))
    have HM : (Instr.makeSlice 98 (.int .i64 0) (.int .i64 0)).run Tryd.prog w = _ := hmk 0 (by omega)
    have h0' : ¬ 0 ≤ n := by omega
    clear hgo hmk
    go_enter Tryd.func14, Tryd.ntmps14
    go_wp2_with fail
    go_ret
    exact HG.out
  · by_cases h1 : n ≤ 512
    · obtain ⟨m, rfl⟩ := Int.eq_ofNat_of_zero_le (show 0 ≤ n by omega)
      have HG := Lib.hid (hgo m (by omega) (by omega))
      have HM := hmk m (by omega)
      have h0' : 0 ≤ (m : Int) := by omega
      have h1' : ¬ 512 < (m : Int) := by omega
      clear hgo hmk
      go_enter Tryd.func14, Tryd.ntmps14
      go_wp2_with fail
      go_ret
      exact HG.out
    · have HG := Lib.hid (hgo 512 (by omega) (by omega))
      have HM : (Instr.makeSlice 98 (.int .i64 512) (.int .i64 512)).run Tryd.prog w = .ok (.slice (some ⟨w.heap.size, 0, none⟩) 512 512) (w.alloc (.cells (bcs (List.replicate (32 * 512) 0)).toArray 121)) := hmk 512 (by omega)
      obtain ⟨Z, hZ⟩ : ∃ Z, Z = List.replicate (32 * 512) (0 : UInt8) := ⟨_, rfl⟩
      rw [← hZ] at HG HM
      have h0' : 0 ≤ n := by omega
      have h1' : 512 < n := by omega
      clear hgo hmk hZ
      go_enter Tryd.func14, Tryd.ntmps14
      go_wp2_with fail
      go_ret
      exact HG.out
end Go.Proofs.YtkmljbbnpjlehaaDoor
