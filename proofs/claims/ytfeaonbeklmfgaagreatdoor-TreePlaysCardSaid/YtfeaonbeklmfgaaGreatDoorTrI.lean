/- What package tree's Put, All, Copy and New answer, and what they leave. Condition: names of at most 2^30 bytes. -/
import Derived.Test.YtfeaonbeklmfgaaGreatDoorTrG
namespace Go.Proofs.YtfeaonbeklmfgaaGreatDoor
set_option maxRecDepth 8000
open Go.RowKit

/-- A record in one's place. -/
theorem TreeAt.set {G : Nat → Prop} {w0 w : World} {T room : Nat} {l : List Rk.R} {r : Rk.R} {g cap : Nat} (hb0 : Below w0.heap.size w0 w) (h1 : w.heap[T]? = some (.cells #[.int .i64 room, .slice (some ⟨g, 0, none⟩) l.length cap] 69 (0, 0))) (hr : RRow 0 w (.slice (some ⟨g, 0, none⟩) l.length cap) l) (hG : G T) (hg : G g) (i : Nat) (hi : i < l.length) :
    TreeAt G (layAt w g (i * 10) r) T room (l.set i r) ∧ OutT G w0 (layAt w g (i * 10) r) := by
  have hTw : T < w.heap.size := (Array.getElem?_eq_some_iff.1 h1).1
  have hne : T ≠ g := fun e => tree_ne_row hr h1 (by rw [e]; rfl)
  have hl : OutT (fun x => x = g) w (layAt w g (i * 10) r) := layAt_out (F := fun x => x = g) rfl w (i * 10) r
  refine ⟨⟨.slice (some ⟨g, 0, none⟩) l.length cap, (hl.block T hTw hne).trans h1, rrow_set hr i hi r, hG, fun k hk => ?_⟩, ?_⟩
  · simp [Value.ownBlock] at hk
    rw [← hk]
    exact hg
  · exact (OutT.of (F := G) hb0).trans hl (fun _ _ h => h) (fun x _ h => by rw [h]; exact hg)
set_option maxHeartbeats 3200000 in
theorem put_any {G : Nat → Prop} {w : World} {T room : Nat} {l : List Rk.R} (r : Rk.R) (h : TreeAt G w T room l) (hl : l.length ≤ 1000000) (hn : r.name.length ≤ 1073741824) (hp : r.parent.length ≤ 1073741824) (hE : EnvT w) :
    Calls Tryz.prog 38 #[.pointer (some ⟨T, 0, none⟩), recV r] w (StepT G w T room (Tr.put l r) (Tr.putE l r)) := by
  have HC := recAt_alloc w r
  obtain ⟨wb, hwb⟩ : ∃ wb, wb = w.alloc (.cells (recCs r) 30) := ⟨_, rfl⟩
  have hbb : Below w.heap.size w wb := by rw [hwb]; exact (Below.refl _ _).alloc (Nat.le_refl _) _
  have hsz : wb.heap.size = w.heap.size + 1 := by rw [hwb]; simp
  rw [← hwb, ← hsz] at HC
  have HRR := Lib.hid (recRight_any r hn hp wb (hE.next hbb))
  have HPL := Lib.hid (fun (w' : World) (hb : Below wb.heap.size wb w') => place_any r.name (h.keep (hbb.trans (hb.mono hbb.size))) (Nat.le_trans hl (by omega)))
  have HE : Hid (Tr.putE l r = if Rk.right r = false then 1 else if h : Tr.pl l r.name < l.length then (if l[Tr.pl l r.name].parent = r.parent then 0 else 8) else 6) := Lib.hid rfl
  have HA : Hid (Tr.put l r = if Tr.putE l r = 0 then l.set (Tr.pl l r.name) r else l) := Lib.hid rfl
  have HT := Lib.hid h
  have HB := Lib.hid hbb
  obtain ⟨q1, hq1⟩ : ∃ q, q = Rk.right r := ⟨_, rfl⟩
  rw [← hq1] at HE HRR
  clear hq1 hbb h hl hn hp hE
  obtain ⟨c0, c1, c2, c3, c4, c5, c6, c7, c8, c9⟩ := HC.out wb (Below.refl _ _)
  unfold recCs at hwb
  unfold recV at HRR ⊢
  go_enter Tryz.func38, Tryz.ntmps38
  go_upto_region 1 with fail
  rw [← hwb]
  clear hwb hsz
  go_wp2_with fail
  refine HRR.out.mono ?_
  rintro e w1 ⟨rfl, hb1⟩
  clear c0 c1 c2 c3 c4 c5 c6 c7 c8 c9 HRR
  cases q1 with
  | false =>
    have HE1 : Hid (Tr.putE l r = 1) := Lib.hid (by rw [HE.out, if_pos rfl])
    go_wp2_with fail
    go_ret
    have := StepT.same (c := 1) HT.out (HB.out.trans (hb1.mono HB.out.size)) (x := 1) rfl
    rw [HA.out, HE1.out]
    exact this
  | true =>
  obtain ⟨c0, c1, c2, c3, c4, c5, c6, c7, c8, c9⟩ := HC.out w1 hb1
  go_wp2_with fail
  refine (HPL.out w1 hb1).mono ?_
  rintro e w2 ⟨rfl, hb2⟩
  have hb02 := hb1.trans (hb2.mono hb1.size)
  clear c0 c1 c2 c3 c4 c5 c6 c7 c8 c9 HPL hb1 hb2
  by_cases hn : Tr.pl l r.name < l.length
  · have e1 : plI l r.name = (Tr.pl l r.name : Int) := by unfold plI; rw [if_pos hn]
    rw [e1]
    have hbt := HB.out.trans (hb02.mono HB.out.size)
    obtain ⟨v, t1, t2, t3, t4⟩ := HT.out.keep hbt
    obtain ⟨A, cap, rfl, hrc⟩ := t2.form
    obtain ⟨b, off, rfl, hblt, h6⟩ := hrc.at10 _ hn
    have hoff : off = 0 := by
      rcases t2.2 with ⟨h, _⟩ | ⟨g, cap', cur, h, _⟩
      · cases h
      · injection h with h1 _ _
        injection h1 with h1
        injection h1
    subst hoff
    have HTR := Lib.hid (And.intro t1 (And.intro t2 (And.intro t3 (t4 b rfl))))
    have tc1 := cell_of_row w2 T 1 _ _ _ t1
    simp only [List.getElem?_toArray, List.getElem?_cons_succ, List.getElem?_cons_zero] at tc1
    have hTlt : T < w2.heap.size := (Array.getElem?_eq_some_iff.1 t1).1
    have HBT := Lib.hid hbt
    have HB2 := Lib.hid hb02
    obtain ⟨j, hj⟩ : ∃ j, j = Tr.pl l r.name := ⟨_, rfl⟩
    have HJ := Lib.hid (And.intro hj hn)
    have HE2 : Hid (Tr.putE l r = if l[Tr.pl l r.name].parent = r.parent then 0 else 8) := Lib.hid (by rw [HE.out, if_neg (by decide), dif_pos hn])
    have i0 : (0 : Int) ≤ (j : Int) := by omega
    have i1 : (j : Int) < (l.length : Int) := by omega
    generalize hpp : l[Tr.pl l r.name] = old at h6 HE2
    clear hpp e1 t1 t2 t3 t4 hbt hb02 hrc hn HE
    rw [← hj] at h6 ⊢
    clear hj
    rw [Nat.zero_add] at h6
    have HOLD := Lib.hid h6
    obtain ⟨o0, o1, o2, o3, o4, o5, o6, o7, o8, o9⟩ := h6
    obtain ⟨c0, c1, c2, c3, c4, c5, c6, c7, c8, c9⟩ := HC.out w2 HB2.out
    have hS := S_beq old.parent r.parent
    by_cases hpar : old.parent = r.parent
    · rw [decide_eq_true hpar] at hS
      have hS2 : ((S old.parent).toList != (S r.parent).toList) = false := by unfold bne; rw [hS]; rfl
      have HE1 : Hid (Tr.putE l r = 0) := Lib.hid (by rw [HE2.out, if_pos hpar])
      clear hpar
      go_wp2_with fail
      go_quiet (fail)
      have hbn : Below w2.heap.size w2 (w2.drewN nq) := below_drewN (Below.refl _ _) nq
      obtain ⟨w4, hw4⟩ : ∃ w4, w4 = w2.drewN nq := ⟨_, rfl⟩
      rw [← hw4] at hbn ⊢
      clear hw4
      have hz4 := hbn.size
      have t1 := (hbn.block T hTlt).trans HTR.out.1
      have t2 := own_below HTR.out.2.1 hbn
      have hat := hbn.cell (p := ⟨T, 1, none⟩) hTlt
      rw [tc1] at hat
      have HFIN := Lib.hid (fun (w5 : World) (hw5 : w5 = (layAt w4 b (j * 10) r).drew) => show StepT G w T room (Tr.put l r) (Tr.putE l r) (.returned (.int .i64 0)) w5 from by
        have := TreeAt.set (w := w4) (r := r) (HBT.out.trans (hbn.mono HBT.out.size)) t1 t2 HTR.out.2.2.1 HTR.out.2.2.2 j (by rw [HJ.out.1]; exact HJ.out.2)
        have hbd : Below (layAt w4 b (j * 10) r).heap.size (layAt w4 b (j * 10) r) (layAt w4 b (j * 10) r).drew := (Below.refl _ _).drew
        rw [hw5, HA.out, HE1.out]
        refine ⟨rfl, ?_, this.2.trans (OutT.of (F := G) hbd) (fun _ _ h => h) (fun _ _ h => h)⟩
        rw [if_pos rfl, ← HJ.out.1]
        exact (this.1.keep hbd).mono (fun x h => .inl h))
      have HT2 := Lib.hid (And.intro t1 (And.intro t2 hbn))
      clear tc1 o0 o1 o2 o3 o4 o5 o6 o7 o8 o9 c0 c1 c2 c3 c4 c5 c6 c7 c8 c9
      have hlt4 : b < w4.heap.size := (World.ownsRow.lt t2 b rfl).2
      have f0 := t2.frozenAt (j * 10)
      have f1 := t2.frozenAt (j * 10 + 1)
      have f2 := t2.frozenAt (j * 10 + 2)
      have f3 := t2.frozenAt (j * 10 + 3)
      have f4 := t2.frozenAt (j * 10 + 4)
      have f5 := t2.frozenAt (j * 10 + 5)
      have f6 := t2.frozenAt (j * 10 + 6)
      have f7 := t2.frozenAt (j * 10 + 7)
      have f8 := t2.frozenAt (j * 10 + 8)
      have f9 := t2.frozenAt (j * 10 + 9)
      have h64 : At10 w4 b (j * 10) old := HOLD.out.keep hbn hblt
      obtain ⟨o0, o1, o2, o3, o4, o5, o6, o7, o8, o9⟩ := h64
      obtain ⟨c0, c1, c2, c3, c4, c5, c6, c7, c8, c9⟩ := HC.out w4 (HB2.out.trans (hbn.mono HB2.out.size))
      clear t1 t2 hbn
      go_wp2_with fail
      go_region_law (fail)
      all_goals
        go_wp2_with fail
        go_ret
        exact HFIN.out _ rfl
    · rw [decide_eq_false hpar] at hS
      have hS2 : ((S old.parent).toList != (S r.parent).toList) = true := by unfold bne; rw [hS]; rfl
      have HE1 : Hid (Tr.putE l r = 8) := Lib.hid (by rw [HE2.out, if_neg hpar])
      clear hpar
      go_wp2_with fail
      go_quiet (fail)
      go_wp2_with fail
      go_ret
      have := StepT.same (c := 8) HT.out (below_drewN HBT.out nq) (x := 8) rfl
      rw [HA.out, HE1.out]
      exact this
  · have e1 : plI l r.name = -1 := by unfold plI; rw [if_neg hn]
    rw [e1]
    have HE1 : Hid (Tr.putE l r = 6) := Lib.hid (by rw [HE.out, if_neg (by decide), dif_neg hn])
    clear e1 hn
    go_wp2_with fail
    go_ret
    have := StepT.same (c := 6) HT.out (HB.out.trans (hb02.mono HB.out.size)) (x := 6) rfl
    rw [HA.out, HE1.out]
    exact this
theorem all_any {G : Nat → Prop} {w : World} {T room : Nat} {l : List Rk.R} (h : TreeAt G w T room l) (hl : l.length ≤ 1048576) :
    Calls Tryz.prog 18 #[.pointer (some ⟨T, 0, none⟩)] w fun e w' => ∃ v, e = .returned v ∧ RRow w.heap.size w' v l ∧ Below w.heap.size w w' := by
  obtain ⟨-, A, cap, tc1, hc⟩ := h.cells
  have HCL := Lib.hid (cloneR_any A cap l w hc hl)
  clear h hc
  go_enter Tryz.func18, Tryz.ntmps18
  go_wp2_with fail
  refine HCL.out.mono ?_
  rintro e w1 ⟨v, rfl, h1, h2⟩
  go_wp2_with fail
  go_ret
  exact ⟨v, rfl, h1, h2⟩
/-- How many a tree has room for. -/
def roomT (room : Int) : Nat := (if (64 : Int) < (if 0 > room then 0 else room) then (64 : Int) else (if 0 > room then 0 else room)).toNat
def NewT (w : World) (room : Nat) (l : List Rk.R) (e : Ending) (w' : World) : Prop :=
  ∃ T, e = .returned (.pointer (some ⟨T, 0, none⟩)) ∧ TreeAt (fun x => w.heap.size ≤ x ∧ x < w'.heap.size) w' T room l ∧ Below w.heap.size w w'
theorem new_anyT (room : Int) (w : World) : Calls Tryz.prog 8 #[.int .i64 room] w (NewT w (roomT room) []) := by
  have h1 : (if (0 : Int) > room then 0 else room) ≥ 0 := by split <;> omega
  obtain ⟨x, hx⟩ : ∃ x, x = (if (0 : Int) > room then 0 else room) := ⟨_, rfl⟩
  have hmax : ∀ w, (Builtin.max_ #[3, 3] 3 #[.int .i64 room, .int .i64 0]).run Tryz.prog w = .ok (.int .i64 x) w := fun w => by rw [run_max_int2, hx]
  obtain ⟨y, hy⟩ : ∃ y : Nat, (y : Int) = (if (64 : Int) < x then 64 else x) := ⟨(if (64 : Int) < x then 64 else x).toNat, by rw [← hx] at h1; split <;> omega⟩
  have hmin : ∀ w, (Builtin.min_ #[3, 3] 3 #[.int .i64 x, .int .i64 64]).run Tryz.prog w = .ok (.int .i64 (y : Int)) w := fun w => by rw [run_min_int2, hy]
  have HR : Hid (roomT room = y) := Lib.hid (by unfold roomT; rw [← hx, ← hy]; simp)
  clear h1 hx hy
  go_enter Tryz.func8, Tryz.ntmps8
  go_wp2_with fail
  go_ret
  rw [HR.out]
  exact ⟨w.heap.size, rfl, ⟨_, heap_alloc_new w _, World.ownsRow_nil _ _ _ _, ⟨Nat.le_refl _, by simp⟩, fun k hk => by cases hk⟩, (Below.refl _ _).alloc (Nat.le_refl _) _⟩
theorem copy_any {G : Nat → Prop} {w : World} {T room : Nat} {l : List Rk.R} (h : TreeAt G w T room l) (hl : l.length ≤ 1048576) :
    Calls Tryz.prog 26 #[.pointer (some ⟨T, 0, none⟩)] w (NewT w room l) := by
  have HAL := Lib.hid (fun (w' : World) (hb : Below w.heap.size w w') => all_any (h.keep hb) hl)
  have hT := h.lt
  obtain ⟨tc0, -⟩ := h.cells
  clear h
  go_enter Tryz.func26, Tryz.ntmps26
  go_wp2_with fail
  go_region_with (go_at_call 18; refine (HAL.out _ ((Below.refl _ _).drew)).mono ?_; rintro e w1 ⟨v, rfl, h1, h2⟩; have d0 := (h2.cell (p := ⟨T, 0, none⟩) hT).trans tc0; obtain ⟨A2, c2, rfl, -⟩ := h1.form)
  all_goals
    go_wp2_with fail
    go_ret
    have hb1 : Below w.heap.size w w1 := ((Below.refl w.heap.size w).drew).trans h2
    exact ⟨w1.heap.size, rfl, ⟨_, heap_alloc_new w1 _, own_below (own_base h1 (fun _ _ => Nat.zero_le _)) ((Below.refl _ _).alloc (Nat.le_refl _) _), ⟨hb1.size, by simp⟩, fun k hk => by
      have h3 := World.ownsRow.lt h1 k hk
      exact ⟨h3.1, by simp; omega⟩⟩, hb1.alloc hb1.size _⟩
end Go.Proofs.YtfeaonbeklmfgaaGreatDoor
