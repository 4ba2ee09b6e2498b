/- The document's tree in memory: New, At, Get, Kids, Path. Condition of Path: each parent lies ahead of its kids. -/
import Derived.Test.YtfeaonbeklmfgaaGreatDoorTrL
import Derived.Test.YtfeaonbeklmfgaaGreatDoorRkI
namespace Go.Proofs.YtfeaonbeklmfgaaGreatDoor
set_option maxRecDepth 8000
open Go.RowKit

/-- The document's tree at T, whose blocks are of G: T and its records' own. -/
def XAt (G : Nat → Prop) (w : World) (T : Nat) (room : Nat) (l : List Rk.R) : Prop :=
  ∃ v, w.heap[T]? = some (.cells #[.int .i64 room, v] 46 (0, 0)) ∧ RRow 0 w v l ∧ G T ∧ ∀ k, v.ownBlock = some k → G k
theorem XAt.out {G H : Nat → Prop} {w w' : World} {T room : Nat} {l : List Rk.R} (h : XAt G w T room l) (ho : OutT H w w') (hn : ∀ x, G x → x < w.heap.size → ¬ H x) : XAt G w' T room l := by
  obtain ⟨v, h1, h2, h3, h4⟩ := h
  have hT : T < w.heap.size := (Array.getElem?_eq_some_iff.1 h1).1
  exact ⟨v, (ho.block T hT (hn T h3 hT)).trans h1, own_kept h2 (fun k hk => ho.block k (World.ownsRow.lt h2 k hk).2 (hn k (h4 k hk) (World.ownsRow.lt h2 k hk).2)), h3, h4⟩
theorem XAt.keep {G : Nat → Prop} {w w' : World} {T room : Nat} {l : List Rk.R} (h : XAt G w T room l) (hb : Below w.heap.size w w') : XAt G w' T room l :=
  h.out (H := fun _ => False) (OutT.of hb) (fun _ _ _ h => h)
theorem XAt.mono {G G' : Nat → Prop} {w : World} {T room : Nat} {l : List Rk.R} (h : XAt G w T room l) (hs : ∀ x, G x → G' x) : XAt G' w T room l := by
  obtain ⟨v, h1, h2, h3, h4⟩ := h
  exact ⟨v, h1, h2, hs _ h3, fun k hk => hs _ (h4 k hk)⟩
theorem XAt.lt {G : Nat → Prop} {w : World} {T room : Nat} {l : List Rk.R} (h : XAt G w T room l) : T < w.heap.size := by
  obtain ⟨v, h1, _⟩ := h
  exact (Array.getElem?_eq_some_iff.1 h1).1
/-- The tree's two cells, and where its records lie. -/
theorem XAt.cells {G : Nat → Prop} {w : World} {T room : Nat} {l : List Rk.R} (h : XAt G w T room l) : w.cell? ⟨T, 0, none⟩ = some (.int .i64 room) ∧ ∃ A cap, w.cell? ⟨T, 1, none⟩ = some (.slice A l.length cap) ∧ RCells w w.heap.size A l := by
  obtain ⟨v, h1, h2, _⟩ := h
  obtain ⟨A, cap, rfl, h5⟩ := h2.form
  exact ⟨cell_of_row w T 0 _ _ _ h1, A, cap, cell_of_row w T 1 _ _ _ h1, h5⟩

theorem XAt.bound {G : Nat → Prop} {w : World} {T room : Nat} {l : List Rk.R} (h : XAt G w T room l) : XAt (fun x => G x ∧ x < w.heap.size) w T room l := by
  have hlt := h.lt
  obtain ⟨v, h1, h2, h3, h4⟩ := h
  exact ⟨v, h1, h2, ⟨h3, hlt⟩, fun k hk => ⟨h4 k hk, (World.ownsRow.lt h2 k hk).2⟩⟩
theorem x_ne_row {base : Nat} {w : World} {v : Value} {l : List Rk.R} {T : Nat} {cs : Array Value} (h : RRow base w v l) (hb : w.heap[T]? = some (.cells cs 46 (0, 0))) : some T ≠ v.ownBlock := by
  intro e
  rcases h.2 with ⟨rfl, _⟩ | ⟨g, cap, cur, rfl, _, hg, _⟩
  · simp [Value.ownBlock] at e
  · simp [Value.ownBlock] at e
    subst e
    rw [hb] at hg
    injection hg with hg
    injection hg with _ hg _
    exact absurd hg (by decide)
/-- A code is told; the tree is as it is told. -/
def StepX (G : Nat → Prop) (w : World) (T room : Nat) (l' : List Rk.R) (c : Nat) (e : Ending) (w' : World) : Prop :=
  e = .returned (.int .i64 (c : Int)) ∧ XAt (OrT G w.heap.size w'.heap.size) w' T room l' ∧ OutT G w w'
theorem StepX.same {G : Nat → Prop} {w w' : World} {T room : Nat} {l : List Rk.R} {c : Nat} (h : XAt G w T room l) (hb : Below w.heap.size w w') {x : Int} (hx : x = (c : Int)) : StepX G w T room l c (.returned (.int .i64 x)) w' :=
  ⟨by rw [hx], (h.keep hb).mono (fun _ h => .inl h), OutT.of hb⟩
/-- Records of the call's own are laid in the tree's place for them. -/
theorem XAt.store {G : Nat → Prop} {w0 w1 : World} {T room : Nat} {l' : List Rk.R} {cs : Array Value} {u v' : Value} (h1 : w1.heap[T]? = some (.cells #[.int .i64 room, u] 46 (0, 0))) (hr : RRow 0 w1 v' l') (hG : G T) (ho : OutT G w0 w1) (hv : ∀ k, v'.ownBlock = some k → w0.heap.size ≤ k) (_hcs : cs = #[.int .i64 room, v']) :
    XAt (OrT G w0.heap.size (w1.setCell ⟨T, 1, none⟩ v').heap.size) (w1.setCell ⟨T, 1, none⟩ v') T room l' ∧ OutT G w0 (w1.setCell ⟨T, 1, none⟩ v') := by
  have hne := x_ne_row hr h1
  refine ⟨⟨v', heap_setCell_same w1 T 1 _ _ _ h1, own_kept hr (fun k hk => Below.heap_setCell w1 ⟨T, 1, none⟩ v' k (fun e => hne (by rw [hk, e]))), .inl hG, fun k hk => .inr ⟨hv k hk, by rw [World.size_setCell]; exact (World.ownsRow.lt hr k hk).2⟩⟩, ho.trans (OutT.set v' hG) (fun _ _ h => h) (fun _ _ h => h)⟩
def NewX (w : World) (room : Nat) (l : List Rk.R) (e : Ending) (w' : World) : Prop :=
  ∃ T, e = .returned (.pointer (some ⟨T, 0, none⟩)) ∧ XAt (fun x => w.heap.size ≤ x ∧ x < w'.heap.size) w' T room l ∧ Below w.heap.size w w'
theorem new_anyX (room : Int) (w : World) : Calls Tryz.prog 9 #[.int .i64 room] w (NewX w (roomT room) []) := by
  have HR : Hid (((roomT room : Nat) : Int) = max 0 (min room 64)) := Lib.hid (by
    unfold roomT
    split <;> split <;> omega)
  obtain ⟨x, hx⟩ : ∃ x, x = (if (64 : Int) < room then 64 else room) := ⟨_, rfl⟩
  have hmin : ∀ w, (Builtin.min_ #[3, 3] 3 #[.int .i64 room, .int .i64 64]).run Tryz.prog w = .ok (.int .i64 x) w := fun w => by rw [run_min_int2, hx]
  obtain ⟨y, hy⟩ : ∃ y : Nat, y = roomT room := ⟨_, rfl⟩
  have hyx : (y : Int) = (if x > 0 then x else 0) := by
    rw [hy, HR.out, hx]
    split <;> split <;> omega
  have hmax : ∀ w, (Builtin.max_ #[3, 3] 3 #[.int .i64 0, .int .i64 x]).run Tryz.prog w = .ok (.int .i64 (y : Int)) w := fun w => by rw [run_max_int2, hyx]
  rw [← hy]
  clear hx hyx hy
  go_enter Tryz.func9, Tryz.ntmps9
  go_wp2_with fail
  go_ret
  exact ⟨w.heap.size, rfl, ⟨_, heap_alloc_new w _, World.ownsRow_nil _ _ _ _, ⟨Nat.le_refl _, by simp⟩, fun k hk => by cases hk⟩, (Below.refl _ _).alloc (Nat.le_refl _) _⟩
theorem plI_hit {l : List Rk.R} {n : List UInt8} {k : Nat} (hk : k < l.length) (h : l[k].name = n) (hall : ∀ j (hj : j < l.length), j < k → l[j].name ≠ n) : plI l n = (k : Int) := by
  have e : Tr.pl l n = k := (List.findIdx_eq hk).2 ⟨decide_eq_true h, fun j hj => decide_eq_false (hall j (by omega) hj)⟩
  unfold plI
  rw [e, if_pos hk]
theorem plI_miss {l : List Rk.R} {n : List UInt8} (hall : ∀ j (hj : j < l.length), l[j].name ≠ n) : plI l n = -1 := by
  unfold plI
  rw [if_neg]
  intro h
  exact hall _ h (Tr.pl_name h)
set_option maxHeartbeats 800000 in
theorem at_anyX {G : Nat → Prop} {w : World} {T room : Nat} {l : List Rk.R} (n : List UInt8) (h : XAt G w T room l) (hl : l.length ≤ 1048576) :
    Calls Tryz.prog 40 #[.pointer (some ⟨T, 0, none⟩), .string (S n)] w fun e w' => e = .returned (.int .i64 (plI l n)) ∧ w = w' := by
  obtain ⟨-, A, cap, tc1, hc⟩ := h.cells
  have HC := Lib.hid hc
  clear h hc
  go_enter Tryz.func40, Tryz.ntmps40
  go_wp2_with fail
  go_loopw [5] (fun i wr => ∃ k : Nat, k ≤ l.length ∧ i = .int .i64 k ∧ (∀ j (hj : j < l.length), j < k → l[j].name ≠ n) ∧ w = wr) (fun i _ => l.length - (intOf i).toNat)
  case atStart => exact ⟨0, Nat.zero_le _, rfl, fun j _ hj => absurd hj (by omega), rfl⟩
  case round =>
    obtain ⟨k, hk, rfl, hall, rfl⟩ := hrel
    have HALL := Lib.hid hall
    clear hall
    by_cases hlt : k < l.length
    · obtain ⟨b, off, rfl, -, h6⟩ := HC.out.at10 k hlt
      have d1 := h6.c1
      have n0 : (0 : Int) ≤ (k : Int) := by omega
      have n1 : (k : Int) < (l.length : Int) := by omega
      have HLT := Lib.hid hlt
      have HHIT := Lib.hid (fun h : l[k].name = n => plI_hit hlt h HALL.out)
      have HMIS := Lib.hid (fun (h : l[k].name ≠ n) => show ∀ j (hj : j < l.length), j < k + 1 → l[j].name ≠ n from fun j hj hjk => by
        by_cases e : j = k
        · subst e; exact h
        · exact HALL.out j hj (by omega))
      clear h6
      generalize l[k].name = x at d1 HHIT HMIS
      have hS := S_beq x n
      by_cases he : x = n
      · rw [decide_eq_true he] at hS
        have HF := Lib.hid (HHIT.out he)
        clear he
        go_wp2_with fail
        go_ret
        exact ⟨by rw [HF.out]; rfl, rfl⟩
      · rw [decide_eq_false he] at hS
        have HE := Lib.hid (HMIS.out he)
        clear he
        go_wp2_with fail
        go_roundw
        case rel => exact ⟨k + 1, by have := HLT.out; omega, by go_num, HE.out, trivial⟩
        case measure => have := HLT.out; simp [intOf]; omega
    · have HF := Lib.hid (plI_miss (fun i hi => HALL.out i hi (by omega)))
      go_wp2_with fail
      go_ret
      exact ⟨by rw [HF.out]; rfl, rfl⟩
set_option maxHeartbeats 1600000 in
theorem get_anyX {G : Nat → Prop} {w : World} {T room : Nat} {l : List Rk.R} (n : List UInt8) (h : XAt G w T room l) (hl : l.length ≤ 1048576) :
    Calls Tryz.prog 15 #[.pointer (some ⟨T, 0, none⟩), .string (S n)] w fun e w' => e = .returned (.tuple #[recV (getR l n), .bool (Tr.has l n)]) ∧ Below w.heap.size w w' := by
  obtain ⟨wb, hwb⟩ : ∃ wb, wb = w.alloc (.cells #[.int .i64 0, .string ⟨#[]⟩, .string ⟨#[]⟩, .string ⟨#[]⟩, .string ⟨#[]⟩, .string ⟨#[]⟩, .int .i64 0, .int .i64 0, .int .i64 0, .bool false] 30) := ⟨_, rfl⟩
  have hbb : Below w.heap.size w wb := by rw [hwb]; exact (Below.refl _ _).alloc (Nat.le_refl _) _
  have hblk : wb.heap[w.heap.size]? = some (.cells (recCs noR) 30 (0, 0)) := by rw [hwb]; exact heap_alloc_new w _
  have hlt : w.heap.size < wb.heap.size := by rw [hwb]; simp
  have hT := h.keep hbb
  have HP := Lib.hid (at_anyX n hT hl)
  have KEEP : Hid (∀ w1, Below wb.heap.size wb w1 → RecAt w1 w.heap.size noR ∧ (∀ i, w1.frozen? ⟨w.heap.size, i, none⟩ = false) ∧ (∀ r', RecAt (layR w1 w.heap.size r') w.heap.size r' ∧ Below w.heap.size w (layR w1 w.heap.size r')) ∧ XAt G w1 T room l) := Lib.hid fun w1 hb => by
    have q := (hb.block _ hlt).trans hblk
    have hs := hb.size
    exact ⟨recAt_blk q, frozenR q, fun r' => ⟨recAt_blk (layR_blk r' q), (hbb.trans (hb.mono hbb.size)).grown (layR_grown w1 w.heap.size r') (by omega) (fun k hk => by cases hk; exact Nat.le_refl _)⟩, hT.keep hb⟩
  clear hbb hblk hlt hT h
  go_enter Tryz.func15, Tryz.ntmps15
  go_upto_region 1 with fail
  rw [← hwb]
  clear hwb
  go_wp2_with fail
  refine HP.out.mono ?_
  rintro _ w1 ⟨rfl, rfl⟩
  have hb1 := Below.refl wb.heap.size wb
  obtain ⟨⟨o0, o1, o2, o3, o4, o5, o6, o7, o8, o9⟩, hfz, hlay, hT1⟩ := KEEP.out wb hb1
  clear HP KEEP hb1
  by_cases hn : Tr.pl l n < l.length
  · have e1 : plI l n = (Tr.pl l n : Int) := by unfold plI; rw [if_pos hn]
    rw [e1]
    have HD : Hid (Ending.returned (.tuple #[recV l[Tr.pl l n], .bool true]) = .returned (.tuple #[recV (getR l n), .bool (Tr.has l n)])) := Lib.hid (by
      unfold getR
      rw [dif_pos hn, Tr.has_iff.2 hn])
    obtain ⟨-, A, cap, c1, hc⟩ := hT1.cells
    obtain ⟨b, off, rfl, -, h6⟩ := hc.at10 _ hn
    have i0 : (0 : Int) ≤ (Tr.pl l n : Int) := by omega
    have i1 : (Tr.pl l n : Int) < (l.length : Int) := by omega
    have HLAY := Lib.hid (hlay l[Tr.pl l n])
    clear e1 hlay hT1 hc
    generalize l[Tr.pl l n] = x at HD h6 HLAY
    generalize Tr.pl l n = j at i0 i1 h6 ⊢
    obtain ⟨d0, d1, d2, d3, d4, d5, d6, d7, d8, d9⟩ := h6
    go_wp2_with fail
    obtain ⟨⟨z0, z1, z2, z3, z4, z5, z6, z7, z8, z9⟩, hbz⟩ := HLAY.out
    change bodyPost Tryz.prog _ _ _ _ (layR wb w.heap.size x)
    refine bodyPost_ret (v := .tuple #[recV x, .bool true]) ?_ rfl ⟨HD.out, hbz⟩
    clear hbz hfz o0 o1 o2 o3 o4 o5 o6 o7 o8 o9 d0 d1 d2 d3 d4 d5 d6 d7 d8 d9 c1
    generalize layR wb w.heap.size x = wz at z0 z1 z2 z3 z4 z5 z6 z7 z8 z9
    simp [results, Tryz.results15, go_sem, z0, z1, z2, z3, z4, z5, z6, z7, z8, z9]
    rfl
  · have e1 : plI l n = -1 := by unfold plI; rw [if_neg hn]
    rw [e1]
    have HD : Hid (Ending.returned (.tuple #[recV noR, .bool false]) = .returned (.tuple #[recV (getR l n), .bool (Tr.has l n)])) := Lib.hid (by
      unfold getR
      rw [dif_neg hn]
      unfold Tr.has
      rw [decide_eq_false hn])
    have HLAY := Lib.hid (hlay noR)
    clear e1 hlay hT1
    go_wp2_with fail
    obtain ⟨⟨z0, z1, z2, z3, z4, z5, z6, z7, z8, z9⟩, hbz⟩ := HLAY.out
    change bodyPost Tryz.prog _ _ _ _ (layR wb w.heap.size noR)
    refine bodyPost_ret (v := .tuple #[recV noR, .bool false]) ?_ rfl ⟨HD.out, hbz⟩
    clear hbz hfz o0 o1 o2 o3 o4 o5 o6 o7 o8 o9
    generalize layR wb w.heap.size noR = wz at z0 z1 z2 z3 z4 z5 z6 z7 z8 z9
    simp [results, Tryz.results15, go_sem, z0, z1, z2, z3, z4, z5, z6, z7, z8, z9]
    rfl

end Go.Proofs.YtfeaonbeklmfgaaGreatDoor
