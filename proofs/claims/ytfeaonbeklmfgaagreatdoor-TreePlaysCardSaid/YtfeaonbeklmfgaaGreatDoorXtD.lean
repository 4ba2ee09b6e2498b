/- The document's Add of trees. -/
import Derived.Test.YtfeaonbeklmfgaaGreatDoorXtC
namespace Go.Proofs.YtfeaonbeklmfgaaGreatDoor
set_option maxRecDepth 8000
open Go.RowKit

theorem allocR {w : World} {o : Obj} {n : Nat} (h : n = w.heap.size) : (w.alloc o).heap[n]? = some o := by rw [h]; exact heap_alloc_new w o
theorem allocR2 {w : World} {o o' : Obj} {n : Nat} (h : n = w.heap.size) : ((w.alloc o).alloc o').heap[n]? = some o := (heap_alloc_old (w.alloc o) o' (by rw [h]; simp)).trans (allocR h)
theorem plI_has (l : List Rk.R) (n : List UInt8) : Tr.has l n = true ↔ 0 ≤ plI l n := by
  rw [Tr.has_iff]
  unfold plI
  split
  · simp; omega
  · simp; omega
theorem made_at {W : World} {B base : Nat} (h : W.heap[B]? = some (.cells #[] 30 (0, 0))) (hb : base ≤ B) : RRow base W (.slice (some ⟨B, 0, none⟩) 0 0) [] :=
  ⟨rfl, .inr ⟨B, 0, #[], rfl, hb, h, Nat.le_refl _, Nat.zero_le _, rfl, rfl⟩⟩
theorem rcells_one {W : World} {B : Nat} {r : Rk.R} {cs : Array Value} (h : W.heap[B]? = some (.cells cs 30 (0, 0))) (hcs : cs = recCs r) : RCells W W.heap.size (some ⟨B, 0, none⟩) [r] := fun _ => by
  subst hcs
  refine ⟨B, 0, rfl, (Array.getElem?_eq_some_iff.1 h).1, fun j u hu => ?_⟩
  have e : cells10 [r] = (recCs r).toList := rfl
  rw [e] at hu
  exact cell_of_row W B (0 + j) _ _ _ h |>.trans (by rw [Nat.zero_add, ← Array.getElem?_toList]; exact hu)
/-- append([]Record{}, l...). -/
theorem step_copyR {W : World} {ops : Array Oper} {o : Oper} {a : Act} {K : Act → World → Prop} {Q : Exit → Act → World → Prop} {E : Prop} (hgd : o.guard = none) (s x : Operand) (base B : Nat) (A : Option Addr) (n c : Nat) (l : List Rk.R)
    (ho : o.op = .call { callee := .builtin .append, args := #[s, x], argTypes := #[43, 43] }) (hs : a.eval s = .slice (some ⟨B, 0, none⟩) 0 0) (hx : a.eval x = .slice A n c) (hm : l.length = n)
    (hB : W.heap[B]? = some (.cells #[] 30 (0, 0))) (hc : RCells W W.heap.size A l) (hb : base ≤ B) (hl : n ≤ 1048576)
    (hK : ∀ A' c' W', RRow base W' (.slice A' n c') l → (∀ k, k < W.heap.size → k ≠ B → W'.heap[k]? = W.heap[k]?) → Below base W W' → K (a.put o.dst (.slice A' n c')) W') : if Region.wanted o (yielded ops a.tmps) = true then Oper.wp Tryz.prog o a W K Q else E := by
  have hBlt : B < W.heap.size := (Array.getElem?_eq_some_iff.1 hB).1
  refine step_recs hgd s x base (.slice (some ⟨B, 0, none⟩) 0 0) A n c [] l ho hs hx hm (made_at hB hb) hc (by omega) (by simp; omega) ?_
  intro v' W' hr hg _
  rw [List.nil_append] at hr
  obtain ⟨A', c', rfl, _⟩ := hr.form
  rw [hm] at hr ⊢
  exact hK A' c' W' hr (fun k hk hne => hg.block k hk (fun e => hne (by simpa [Value.ownBlock] using e))) ((Below.refl _ _).grown hg (by omega) (fun k hk => by simp [Value.ownBlock] at hk; omega))
/-- append(l, r). -/
theorem step_pushR {W : World} {ops : Array Oper} {o : Oper} {a : Act} {K : Act → World → Prop} {Q : Exit → Act → World → Prop} {E : Prop} (hgd : o.guard = none) (s x : Operand) (base B : Nat) (v : Value) (l : List Rk.R) (r : Rk.R) {cs : Array Value}
    (ho : o.op = .call { callee := .builtin .append, args := #[s, x], argTypes := #[43, 43] }) (hs : a.eval s = v) (hx : a.eval x = .slice (some ⟨B, 0, none⟩) 1 1)
    (hr : RRow base W v l) (hB : W.heap[B]? = some (.cells cs 30 (0, 0))) (hcs : cs = recCs r) (hb : base ≤ W.heap.size) (hl : l.length ≤ 1000000)
    (hK : ∀ A' c' W', RRow base W' (.slice A' (l.length + 1) c') (l ++ [r]) → Below base W W' → K (a.put o.dst (.slice A' (l.length + 1) c')) W') : if Region.wanted o (yielded ops a.tmps) = true then Oper.wp Tryz.prog o a W K Q else E := by
  refine step_recs hgd s x base v (some ⟨B, 0, none⟩) 1 1 l [r] ho hs hx rfl hr (rcells_one hB hcs) hb (by omega) ?_
  intro v' W' hr' hg _
  obtain ⟨A', c', rfl, _⟩ := hr'.form
  rw [List.length_append, List.length_singleton] at hr' ⊢
  exact hK A' c' W' hr' ((Below.refl _ _).grown hg hb (fun k hk => (World.ownsRow.lt hr k hk).1))
/-- A copy with one record more is laid in the tree's place for them. -/
theorem add_finX {G : Nat → Prop} {w w1 w5 : World} {T room c5 n : Nat} {A : Option Addr} {l' : List Rk.R} {u : Value} (h1 : w1.heap[T]? = some (.cells #[.int .i64 room, u] 46 (0, 0))) (hG : G T) (hb : Below w.heap.size w w1) (hb5 : Below w1.heap.size w1 w5) {base : Nat} (hbs : w.heap.size ≤ base) (hr : RRow base w5 (.slice A n c5) l') :
    w5.cell? ⟨T, 1, none⟩ = some u ∧ w5.frozen? ⟨T, 1, none⟩ = false ∧ XAt (OrT G w.heap.size (w5.setCell ⟨T, 1, none⟩ (.slice A n c5)).heap.size) (w5.setCell ⟨T, 1, none⟩ (.slice A n c5)) T room l' ∧ OutT G w (w5.setCell ⟨T, 1, none⟩ (.slice A n c5)) := by
  have hT := (Array.getElem?_eq_some_iff.1 h1).1
  have h5 := (hb5.block T hT).trans h1
  have hr0 : RRow 0 w5 (.slice A n c5) l' := own_base hr (fun _ _ => Nat.zero_le _)
  have hst := XAt.store (G := G) (room := room) (cs := #[.int .i64 room, .slice A n c5]) h5 hr0 hG (OutT.of (hb.trans (hb5.mono hb.size))) (fun k hk => Nat.le_trans hbs (World.ownsRow.lt hr k hk).1) rfl
  refine ⟨?_, frozen_of_row _ T 1 _ _ h5, hst⟩
  have := cell_of_row _ T 1 _ _ _ h5
  simpa using this
set_option maxHeartbeats 3200000 in
theorem add_anyX {G : Nat → Prop} {w : World} {T room : Nat} {l : List Rk.R} (r : Rk.R) (h : XAt G w T room l) (hl : l.length ≤ 1000000) (hn : r.name.length ≤ 1073741824) (hp : r.parent.length ≤ 1073741824) :
    Calls Tryz.prog 11 #[.pointer (some ⟨T, 0, none⟩), recV r] w (StepX G w T room (Tr.add room l r) (Tr.addE room l r)) := by
  have HC := recAt_alloc w r
  obtain ⟨wb, hwb⟩ : ∃ wb, wb = w.alloc (.cells (recCs r) 30) := ⟨_, rfl⟩
  have hbb : Below w.heap.size w wb := by rw [hwb]; exact (Below.refl _ _).alloc (Nat.le_refl _) _
  have hsz : wb.heap.size = w.heap.size + 1 := by rw [hwb]; simp
  rw [← hwb, ← hsz] at HC
  have HRR := Lib.hid (refRight13_any r hn hp wb)
  have HAT := Lib.hid (fun (n : List UInt8) (w' : World) (hb : Below wb.heap.size wb w') => at_anyX n (h.keep (hbb.trans (hb.mono hbb.size))) (Nat.le_trans hl (by omega)))
  have HE : Hid (Tr.addE room l r = if Rk.right r = false then 1 else if Tr.has l r.name = true then 7 else if r.parent ≠ [] ∧ Tr.has l r.parent = false then 6 else if room ≤ l.length then 5 else 0) := Lib.hid rfl
  have HA : Hid (Tr.add room l r = if Tr.addE room l r = 0 then l ++ [r] else l) := Lib.hid rfl
  have HT := Lib.hid h
  have HB := Lib.hid hbb
  have HLN := Lib.hid hl
  obtain ⟨q1, hq1⟩ : ∃ q, q = Rk.right r := ⟨_, rfl⟩
  obtain ⟨q2, hq2⟩ : ∃ q, q = Tr.has l r.name := ⟨_, rfl⟩
  obtain ⟨q3, hq3⟩ : ∃ q, q = Tr.has l r.parent := ⟨_, rfl⟩
  have HP2 := Lib.hid (plI_has l r.name)
  have HP3 := Lib.hid (plI_has l r.parent)
  rw [← hq2] at HP2
  rw [← hq3] at HP3
  rw [← hq1, ← hq2, ← hq3] at HE
  rw [← hq1] at HRR
  clear hq1 hq2 hq3 hbb h hl hn hp
  obtain ⟨c0, c1, c2, c3, c4, c5, c6, c7, c8, c9⟩ := HC.out wb (Below.refl _ _)
  unfold recCs at hwb
  unfold recV at HRR ⊢
  go_enter Tryz.func11, Tryz.ntmps11
  go_upto_region 1 with fail
  rw [← hwb]
  clear hwb hsz
  go_wp2_with fail
  refine HRR.out.mono ?_
  rintro e w1 ⟨rfl, hb1⟩
  clear c0 c1 c2 c3 c4 c5 c6 c7 c8 c9 HRR
  cases q1 with
  | false =>
    have HE1 : Hid (Tr.addE room l r = 1) := Lib.hid (by rw [HE.out, if_pos rfl])
    go_wp2_with fail
    go_ret
    have := StepX.same (c := 1) HT.out (HB.out.trans (hb1.mono HB.out.size)) (x := 1) rfl
    rw [HA.out, HE1.out]
    exact this
  | true =>
  obtain ⟨c0, c1, c2, c3, c4, c5, c6, c7, c8, c9⟩ := HC.out w1 hb1
  go_wp2_with fail
  refine (HAT.out _ w1 hb1).mono ?_
  rintro e w2 ⟨rfl, rfl⟩
  have hb02 := hb1
  have e2 := HP2.out
  generalize plI l r.name = i2 at e2 ⊢
  clear c0 c1 c2 c3 c4 c5 c6 c7 c8 c9 HP2 hb1
  cases q2 with
  | true =>
    have HE1 : Hid (Tr.addE room l r = 7) := Lib.hid (by rw [HE.out, if_neg (by decide), if_pos rfl])
    have e3 : (0 : Int) ≤ i2 := e2.1 rfl
    clear e2
    go_wp2_with fail
    go_ret
    have := StepX.same (c := 7) HT.out (HB.out.trans (hb02.mono HB.out.size)) (x := 7) rfl
    rw [HA.out, HE1.out]
    exact this
  | false =>
  have e3 : ¬ (0 : Int) ≤ i2 := fun h => absurd (e2.2 h) (by decide)
  clear e2
  obtain ⟨c0, c1, c2, c3, c4, c5, c6, c7, c8, c9⟩ := HC.out w1 hb02
  have hpe := S_empty r.parent
  by_cases hbad : r.parent ≠ [] ∧ q3 = false
  · have HE1 : Hid (Tr.addE room l r = 6) := Lib.hid (by rw [HE.out, if_neg (by decide), if_neg (by decide), if_pos hbad])
    obtain ⟨h1, rfl⟩ := hbad
    have hpe1 : ((S r.parent).toList != []) = true := by rw [S_list]; simpa using h1
    have hpe2 : r.parent.isEmpty = false := by simpa using h1
    rw [hpe2] at hpe
    clear h1 hpe2
    have e4 : ¬ (0 : Int) ≤ plI l r.parent := fun h => absurd (HP3.out.2 h) (by decide)
    go_wp2_with fail
    refine (HAT.out _ w1 hb02).mono ?_
    rintro e w3 ⟨rfl, rfl⟩
    have hb03 := hb02
    generalize plI l r.parent = i3 at e4 ⊢
    have e5 : i3 < 0 := by omega
    clear e4
    go_wp2_with fail
    go_ret
    have := StepX.same (c := 6) HT.out (HB.out.trans (hb03.mono HB.out.size)) (x := 6) rfl
    rw [HA.out, HE1.out]
    exact this
  · have HE2 : Hid (Tr.addE room l r = if room ≤ l.length then 5 else 0) := Lib.hid (by rw [HE.out, if_neg (by decide), if_neg (by decide), if_neg hbad])
    go_upto_region 6 with fail
    go_cut [24] (fun t wx => t = .bool false ∧ Below wb.heap.size wb wx)
    case first =>
      by_cases h0 : r.parent = []
      · have hpe1 : ((S r.parent).toList != []) = false := by rw [S_list, h0]; rfl
        rw [h0] at hpe
        clear hbad
        go_wp2_with fail
        go_meet
        exact ⟨rfl, hb02⟩
      · have hq3 : q3 = true := by
          cases q3 with
          | true => rfl
          | false => exact absurd ⟨h0, rfl⟩ hbad
        subst hq3
        have hpe1 : ((S r.parent).toList != []) = true := by rw [S_list]; simpa using h0
        have hpe2 : r.parent.isEmpty = false := by simpa using h0
        rw [hpe2] at hpe
        clear hbad h0 hpe2
        have e4 : (0 : Int) ≤ plI l r.parent := HP3.out.1 rfl
        go_wp2_with fail
        refine (HAT.out _ w1 hb02).mono ?_
        rintro e w3 ⟨rfl, rfl⟩
        generalize plI l r.parent = i3 at e4 ⊢
        have e5 : ¬ i3 < 0 := by omega
        go_wp2_with fail
        go_meet
        exact ⟨by simp [e5], hb02⟩
    case rest =>
      obtain ⟨rfl, hb3⟩ := hcut
      clear c0 c1 c2 c3 c4 c5 c6 c7 c8 c9 hbad hb02
      obtain ⟨w3, rfl⟩ : ∃ q, q = wc := ⟨_, rfl⟩
      have hbt := HB.out.trans (hb3.mono HB.out.size)
      obtain ⟨v, t1, t2, t3, t4⟩ := HT.out.keep hbt
      obtain ⟨A, cap, rfl, hrc⟩ := t2.form
      have tc0 := cell_of_row w3 T 0 _ _ _ t1
      have tc1 := cell_of_row w3 T 1 _ _ _ t1
      simp only [List.getElem?_toArray, List.getElem?_cons_succ, List.getElem?_cons_zero] at tc0 tc1
      have hTlt : T < w3.heap.size := (Array.getElem?_eq_some_iff.1 t1).1
      have HTR := Lib.hid (And.intro t1 (And.intro t3 hrc))
      have HBT := Lib.hid hbt
      have HB3 := Lib.hid hb3
      clear t1 t2 t3 t4 hbt hb3 hrc
      by_cases hroom : room ≤ l.length
      · have HE1 : Hid (Tr.addE room l r = 5) := Lib.hid (by rw [HE2.out, if_pos hroom])
        have hri : (room : Int) ≤ (l.length : Int) := by omega
        go_wp2_with fail
        go_quiet (fail)
        go_wp2_with fail
        go_ret
        have := StepX.same (c := 5) HT.out (below_drewN HBT.out nq) (x := 5) rfl
        rw [HA.out, HE1.out]
        exact this
      · have HE1 : Hid (Tr.addE room l r = 0) := Lib.hid (by rw [HE2.out, if_neg hroom])
        have hri : ¬ (room : Int) ≤ (l.length : Int) := by omega
        clear hroom
        go_wp2_with fail
        go_quiet (fail)
        have hbn : Below w3.heap.size w3 (w3.drewN nq) := below_drewN (Below.refl _ _) nq
        obtain ⟨w4, hw4⟩ : ∃ w4, w4 = w3.drewN nq := ⟨_, rfl⟩
        rw [← hw4] at hbn ⊢
        clear hw4
        have HB4 := Lib.hid hbn
        have HTC := Lib.hid (fun (w' : World) (hb : Below w4.heap.size w4 w') => (hb.cell (p := ⟨T, 1, none⟩) (Nat.lt_of_lt_of_le hTlt hbn.size)).trans ((hbn.cell (p := ⟨T, 1, none⟩) hTlt).trans tc1))
        have HRC := Lib.hid (fun (w' : World) (hb : Below w4.heap.size w4 w') => (HTR.out.2.2.next hbn).next hb)
        have HC4 := Lib.hid (fun (w' : World) (hb : Below w4.heap.size w4 w') => HC.out w' ((HB3.out.trans (hbn.mono HB3.out.size)).trans (hb.mono (Nat.le_trans HB3.out.size hbn.size))))
        have hll := HLN.out
        clear tc0 tc1 hbn
        have tc4 := HTC.out w4 (Below.refl _ _)
        have he : Below w4.heap.size w4 (w4.alloc (.cells #[] 30)) := (Below.refl _ _).alloc (Nat.le_refl _) _
        have tce := HTC.out _ he
        obtain ⟨c0, c1, c2, c3, c4, c5, c6, c7, c8, c9⟩ := HC4.out w4 (Below.refl _ _)
        obtain ⟨d0, d1, d2, d3, d4, d5, d6, d7, d8, d9⟩ := HC4.out _ he
        have tcr := HTC.out _ ((Below.refl w4.heap.size w4).alloc (Nat.le_refl _) (.cells #[.int .i64 r.kind, .string (S r.name), .string (S r.parent), .string (S r.user), .string (S r.service), .string (S r.url), .int .i64 r.made, .int .i64 r.used, .int .i64 r.uses, .bool r.fresh] 30))
        have hre := (Below.refl w4.heap.size w4).alloc (Nat.le_refl _) (.cells #[.int .i64 r.kind, .string (S r.name), .string (S r.parent), .string (S r.user), .string (S r.service), .string (S r.url), .int .i64 r.made, .int .i64 r.used, .int .i64 r.uses, .bool r.fresh] 30)
        have tcre := HTC.out _ (hre.alloc hre.size (.cells #[] 30))
        clear hre
        have tcer := HTC.out _ (he.alloc he.size (.cells #[.int .i64 r.kind, .string (S r.name), .string (S r.parent), .string (S r.user), .string (S r.service), .string (S r.url), .int .i64 r.made, .int .i64 r.used, .int .i64 r.uses, .bool r.fresh] 30))
        clear he
        go_wp2_with fail
        go_region_law ((first
          | (refine step_copyR rfl (.tmp 36) (.tmp 40) w4.heap.size _ A l.length cap l rfl rfl rfl rfl (by first | exact allocR rfl | exact allocR (by first | omega | (simp; omega) | simp) | exact allocR2 rfl) (HRC.out _ (by (repeat (first | exact Below.refl _ _ | assumption | refine Below.drew ?_ | refine Below.alloc ?_ (by first | omega | (simp; omega) | simp) _)))) (by first | omega | (simp; omega) | simp) (by omega) ?_; intro A6 c6 W6 hr6 hk6 hb6'; have hb6 : Below w4.heap.size w4 W6 := Below.trans (by (repeat (first | exact Below.refl _ _ | assumption | refine Below.drew ?_ | refine Below.alloc ?_ (by first | omega | (simp; omega) | simp) _))) (hb6'.mono (by first | omega | (simp; omega) | simp)); have tc6 := HTC.out W6 hb6; obtain ⟨g0, g1, g2, g3, g4, g5, g6, g7, g8, g9⟩ := HC4.out _ hb6)
          | (refine step_pushR rfl (.tmp 41) (.tmp 43) w4.heap.size _ (.slice A6 l.length c6) l r rfl (by rfl) (by rfl) (by first | exact hr6 | exact hr6.alloc _) (by first | exact allocR rfl | exact (hk6 _ (by first | (simp; done) | (simp; omega) | omega) (by first | (simp; done) | (simp; omega) | omega)).trans (allocR (by simp)) | exact (hk6 _ (by first | (simp; done) | (simp; omega) | omega) (by first | (simp; done) | (simp; omega) | omega)).trans (allocR2 rfl)) rfl (by have := hb6.size; first | omega | (simp; omega) | simp) hll ?_; intro A7 c7' W7 hr7 hb7'; have hb7 : Below w4.heap.size w4 W7 := Below.trans (by have := hb6.size; (repeat (first | exact Below.refl _ _ | assumption | refine Below.drew ?_ | refine Below.alloc ?_ (by first | omega | (simp; omega) | simp) _))) (hb7'.mono (by have := hb6.size; first | omega | (simp; omega) | simp)); clear hb7'; have hfin := add_finX HTR.out.1 HTR.out.2.1 HBT.out (HB4.out.trans (hb7.mono HB4.out.size)) (Nat.le_trans HBT.out.size HB4.out.size) hr7; have s1 := hfin.1; have s2 := hfin.2.1; have HFIN := Lib.hid hfin.2.2; clear hfin)))
        all_goals
          go_wp2_with fail
          go_ret
          rw [HA.out, HE1.out, if_pos rfl]
          exact ⟨rfl, HFIN.out⟩
end Go.Proofs.YtfeaonbeklmfgaaGreatDoor
