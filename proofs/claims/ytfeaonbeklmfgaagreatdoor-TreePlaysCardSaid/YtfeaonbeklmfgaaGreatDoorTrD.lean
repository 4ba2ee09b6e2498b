/- What package tree's Add answers, and what it leaves. Condition: names of at most 2^30 bytes, at most a million records. -/
import Derived.Test.YtfeaonbeklmfgaaGreatDoorTrC
namespace Go.Proofs.YtfeaonbeklmfgaaGreatDoor
set_option maxRecDepth 8000
open Go.RowKit

/-- A code is told; the tree is as it is told. -/
def StepT (G : Nat → Prop) (w : World) (T room : Nat) (l' : List Rk.R) (c : Nat) (e : Ending) (w' : World) : Prop :=
  e = .returned (.int .i64 (c : Int)) ∧ TreeAt (OrT G w.heap.size w'.heap.size) w' T room l' ∧ OutT G w w'
theorem StepT.same {G : Nat → Prop} {w w' : World} {T room : Nat} {l : List Rk.R} {c : Nat} (h : TreeAt G w T room l) (hb : Below w.heap.size w w') {x : Int} (hx : x = (c : Int)) : StepT G w T room l c (.returned (.int .i64 x)) w' :=
  ⟨by rw [hx], (h.keep hb).mono (fun _ h => .inl h), OutT.of hb⟩
theorem tree_ne_row {base : Nat} {w : World} {v : Value} {l : List Rk.R} {T : Nat} {cs : Array Value} (h : RRow base w v l) (hb : w.heap[T]? = some (.cells cs 69 (0, 0))) : some T ≠ v.ownBlock := by
  intro e
  rcases h.2 with ⟨rfl, _⟩ | ⟨g, cap, cur, rfl, _, hg, _⟩
  · simp [Value.ownBlock] at e
  · simp [Value.ownBlock] at e
    subst e
    rw [hb] at hg
    injection hg with hg
    injection hg with _ hg _
    exact absurd hg (by decide)
/-- A record behind a tree's. -/
theorem TreeAt.snoc {G : Nat → Prop} {w0 w w1 : World} {T room : Nat} {l : List Rk.R} {r : Rk.R} {A : Option Addr} {cap g c : Nat} (hb0 : Below w0.heap.size w0 w) (h1 : w.heap[T]? = some (.cells #[.int .i64 room, .slice A l.length cap] 69 (0, 0))) (hr : RRow 0 w (.slice A l.length cap) l) (hG : G T) (hv : ∀ k, (Value.slice A l.length cap).ownBlock = some k → G k ∧ k < w0.heap.size) (w' : World) (hw' : Below w.heap.size w w') (hown : w1.ownsRow 0 30 10 (.slice (some ⟨g, 0, none⟩) (l.length + 1) c) (l.length + 1) (cells10 l ++ cellsR r)) (hgr : w'.grownBy w1 (Value.slice A l.length cap).ownBlock) (hat : (Value.slice A l.length cap).ownBlock = some g ∨ g = w'.heap.size) (hlt : g < w1.heap.size) (v : Value) (hvv : v = .slice (some ⟨g, 0, none⟩) (l.length + 1) c) :
    TreeAt (OrT G w0.heap.size (w1.setCell ⟨T, 1, none⟩ v).heap.size) (w1.setCell ⟨T, 1, none⟩ v) T room (l ++ [r]) ∧ OutT G w0 (w1.setCell ⟨T, 1, none⟩ v) := by
  subst hvv
  have hTw : T < w.heap.size := (Array.getElem?_eq_some_iff.1 h1).1
  have hz0 := hb0.size
  have hzw := hw'.size
  have hTne := tree_ne_row hr h1
  have hT1 : w1.heap[T]? = some (.cells #[.int .i64 room, .slice A l.length cap] 69 (0, 0)) := (hgr.block T (by omega) hTne).trans ((hw'.block T hTw).trans h1)
  have hgT : g ≠ T := by
    rcases hat with h | h
    · exact fun e => hTne (by rw [h, e])
    · omega
  have hsz := World.size_setCell w1 ⟨T, 1, none⟩ (.slice (some ⟨g, 0, none⟩) (l.length + 1) c)
  refine ⟨⟨_, heap_setCell_same w1 T 1 _ _ _ hT1, ?_, .inl hG, fun k hk => ?_⟩, ?_⟩
  · have h5 : RRow 0 w1 (.slice (some ⟨g, 0, none⟩) (l.length + 1) c) (l ++ [r]) := by
      unfold RRow
      rw [List.length_append, cells10_append]
      have e : cells10 [r] = cellsR r := by simp [cells10]
      rw [e]
      exact hown
    exact own_kept h5 (fun k hk => by
      simp [Value.ownBlock] at hk
      subst hk
      exact Below.heap_setCell w1 ⟨T, 1, none⟩ _ g hgT)
  · simp [Value.ownBlock] at hk
    subst hk
    rcases hat with h | h
    · exact .inl (hv g h).1
    · right
      rw [hsz]
      exact ⟨by omega, hlt⟩
  · have o1 : OutT G w0 w := OutT.of hb0
    have o2 : OutT G w w' := OutT.of hw'
    have o3 : OutT G w' w1 := OutT.grown hgr (fun k hk => (hv k hk).1)
    have o4 : OutT G w1 (w1.setCell ⟨T, 1, none⟩ (.slice (some ⟨g, 0, none⟩) (l.length + 1) c)) := OutT.set _ hG
    exact ((o1.trans o2 (fun _ _ h => h) (fun _ _ h => h)).trans o3 (fun _ _ h => h) (fun _ _ h => h)).trans o4 (fun _ _ h => h) (fun _ _ h => h)

set_option maxHeartbeats 3200000 in
theorem add_any {G : Nat → Prop} {w : World} {T room : Nat} {l : List Rk.R} (r : Rk.R) (h : TreeAt G w T room l) (hl : l.length ≤ 1000000) (hn : r.name.length ≤ 1073741824) (hp : r.parent.length ≤ 1073741824) (hE : EnvT w) :
    Calls Tryz.prog 34 #[.pointer (some ⟨T, 0, none⟩), recV r] w (StepT G w T room (Tr.add room l r) (Tr.addE room l r)) := by
  have HC := recAt_alloc w r
  obtain ⟨wb, hwb⟩ : ∃ wb, wb = w.alloc (.cells (recCs r) 30) := ⟨_, rfl⟩
  have hbb : Below w.heap.size w wb := by rw [hwb]; exact (Below.refl _ _).alloc (Nat.le_refl _) _
  have hsz : wb.heap.size = w.heap.size + 1 := by rw [hwb]; simp
  rw [← hwb, ← hsz] at HC
  have HR := Lib.hid (fun (w' : World) (hb : Below wb.heap.size wb w') => recRight_any r hn hp w' (hE.next (hbb.trans (hb.mono hbb.size))))
  have HHAS := Lib.hid (fun (n : List UInt8) (w' : World) (hb : Below wb.heap.size wb w') => has_any n (h.keep (hbb.trans (hb.mono hbb.size))) (Nat.le_trans hl (by omega)))
  have HE : Hid (Tr.addE room l r = if Rk.right r = false then 1 else if Tr.has l r.name = true then 7 else if r.parent ≠ [] ∧ Tr.has l r.parent = false then 6 else if room ≤ l.length then 5 else 0) := Lib.hid rfl
  have HA : Hid (Tr.add room l r = if Tr.addE room l r = 0 then l ++ [r] else l) := Lib.hid rfl
  have HT := Lib.hid h
  have HB := Lib.hid hbb
  have HL := Lib.hid hl
  obtain ⟨q1, hq1⟩ : ∃ q, q = Rk.right r := ⟨_, rfl⟩
  obtain ⟨q2, hq2⟩ : ∃ q, q = Tr.has l r.name := ⟨_, rfl⟩
  obtain ⟨q3, hq3⟩ : ∃ q, q = Tr.has l r.parent := ⟨_, rfl⟩
  rw [← hq1, ← hq2, ← hq3] at HE
  have HN := HHAS.out r.name
  have HPA := HHAS.out r.parent
  rw [← hq2] at HN
  rw [← hq3] at HPA
  have HRR := HR.out
  rw [← hq1] at HRR
  have HN := Lib.hid HN
  have HPA := Lib.hid HPA
  have HRR := Lib.hid HRR
  clear hq1 hq2 hq3 HR HHAS hbb h hl hn hp hE
  obtain ⟨c0, c1, c2, c3, c4, c5, c6, c7, c8, c9⟩ := HC.out wb (Below.refl _ _)
  unfold recCs at hwb
  unfold recV at HRR ⊢
  have hpe := S_empty r.parent
  go_enter Tryz.func34, Tryz.ntmps34
  go_upto_region 1 with fail
  rw [← hwb]
  clear hwb hsz
  go_wp2_with fail
  refine (HRR.out wb (Below.refl _ _)).mono ?_
  rintro e w1 ⟨rfl, hb1⟩
  clear c0 c1 c2 c3 c4 c5 c6 c7 c8 c9 HRR
  cases q1 with
  | false =>
    have HE1 : Hid (Tr.addE room l r = 1) := Lib.hid (by rw [HE.out, if_pos rfl])
    go_wp2_with fail
    go_ret
    have := StepT.same (c := 1) HT.out (HB.out.trans (hb1.mono HB.out.size)) (x := 1) rfl
    rw [HA.out, HE1.out]
    exact this
  | true =>
  obtain ⟨c0, c1, c2, c3, c4, c5, c6, c7, c8, c9⟩ := HC.out w1 hb1
  go_wp2_with fail
  refine (HN.out w1 hb1).mono ?_
  rintro e w2 ⟨rfl, hb2⟩
  have hb02 := hb1.trans (hb2.mono hb1.size)
  clear c0 c1 c2 c3 c4 c5 c6 c7 c8 c9 HN hb1 hb2
  cases q2 with
  | true =>
    have HE1 : Hid (Tr.addE room l r = 7) := Lib.hid (by rw [HE.out, if_neg (by decide), if_pos rfl])
    go_wp2_with fail
    go_ret
    have := StepT.same (c := 7) HT.out (HB.out.trans (hb02.mono HB.out.size)) (x := 7) rfl
    rw [HA.out, HE1.out]
    exact this
  | false =>
  obtain ⟨c0, c1, c2, c3, c4, c5, c6, c7, c8, c9⟩ := HC.out w2 hb02
  by_cases hbad : r.parent ≠ [] ∧ q3 = false
  · have HE1 : Hid (Tr.addE room l r = 6) := Lib.hid (by rw [HE.out, if_neg (by decide), if_neg (by decide), if_pos hbad])
    obtain ⟨h1, rfl⟩ := hbad
    have hpe1 : ((S r.parent).toList != []) = true := by rw [S_list]; simpa using h1
    have hpe2 : r.parent.isEmpty = false := by simpa using h1
    rw [hpe2] at hpe
    clear h1 hpe2
    go_wp2_with fail
    refine (HPA.out w2 hb02).mono ?_
    rintro e w3 ⟨rfl, hb3⟩
    have hb03 := hb02.trans (hb3.mono hb02.size)
    go_wp2_with fail
    go_ret
    have := StepT.same (c := 6) HT.out (HB.out.trans (hb03.mono HB.out.size)) (x := 6) rfl
    rw [HA.out, HE1.out]
    exact this
  · have HE2 : Hid (Tr.addE room l r = if room ≤ l.length then 5 else 0) := Lib.hid (by rw [HE.out, if_neg (by decide), if_neg (by decide), if_neg hbad])
    go_upto_region 5 with fail
    go_cut [14] (fun t wx => t = .bool false ∧ Below wb.heap.size wb wx)
    case first =>
      by_cases h0 : r.parent = []
      · have hpe1 : ((S r.parent).toList != []) = false := by rw [S_list, h0]; rfl
        rw [h0] at hpe
        clear hbad
        go_wp2_with fail
        go_meet
        exact ⟨rfl, hb02⟩
      · have hq3 : q3 = true := by
          cases q3 with
          | true => rfl
          | false => exact absurd ⟨h0, rfl⟩ hbad
        subst hq3
        have hpe1 : ((S r.parent).toList != []) = true := by rw [S_list]; simpa using h0
        have hpe2 : r.parent.isEmpty = false := by simpa using h0
        rw [hpe2] at hpe
        clear hbad h0 hpe2
        go_wp2_with fail
        refine (HPA.out w2 hb02).mono ?_
        rintro e w3 ⟨rfl, hb3⟩
        go_wp2_with fail
        go_meet
        exact ⟨rfl, hb02.trans (hb3.mono hb02.size)⟩
    case rest =>
      obtain ⟨rfl, hb3⟩ := hcut
      clear c0 c1 c2 c3 c4 c5 c6 c7 c8 c9 hbad hb02
      obtain ⟨w3, rfl⟩ : ∃ q, q = wc := ⟨_, rfl⟩
      have hbt := HB.out.trans (hb3.mono HB.out.size)
      obtain ⟨v, t1, t2, t3, t4⟩ := HT.out.keep hbt
      obtain ⟨A, cap, rfl, -⟩ := t2.form
      have tc0 := cell_of_row w3 T 0 _ _ _ t1
      have tc1 := cell_of_row w3 T 1 _ _ _ t1
      simp only [List.getElem?_toArray, List.getElem?_cons_succ, List.getElem?_cons_zero] at tc0 tc1
      have HROW := Lib.hid t2
      have HTB := Lib.hid t1
      have HG := Lib.hid t3
      have hTlt := HT.out.lt
      have HV := Lib.hid (show ∀ k, (Value.slice A l.length cap).ownBlock = some k → G k ∧ k < w.heap.size from fun k hk => ⟨t4 k hk, by
        obtain ⟨v', s1, s2, s3, s4⟩ := HT.out
        have e := (hbt.block T HT.out.lt).trans s1
        rw [t1] at e
        injection e with e
        injection e with e _ _
        have e2 := congrArg (fun a => a[1]?) e
        simp at e2
        subst e2
        exact (World.ownsRow.lt s2 k hk).2⟩)
      obtain ⟨c0, c1, c2, c3, c4, c5, c6, c7, c8, c9⟩ := HC.out w3 hb3
      have HBT := Lib.hid hbt
      have hw3lt : T < w3.heap.size := Nat.lt_of_lt_of_le hTlt hbt.size
      have HB3 := Lib.hid hb3
      clear t1 t2 t3 t4 hbt hb3
      by_cases hroom : room ≤ l.length
      · have HE1 : Hid (Tr.addE room l r = 5) := Lib.hid (by rw [HE2.out, if_pos hroom])
        have hri : (room : Int) ≤ (l.length : Int) := by omega
        go_wp2_with fail
        go_quiet (fail)
        go_wp2_with fail
        go_ret
        have := StepT.same (c := 5) HT.out (below_drewN HBT.out nq) (x := 5) rfl
        rw [HA.out, HE1.out]
        exact this
      · have HE1 : Hid (Tr.addE room l r = 0) := Lib.hid (by rw [HE2.out, if_neg hroom])
        have hri : ¬ (room : Int) ≤ (l.length : Int) := by omega
        obtain ⟨i0, hi0, hz0, hz1, hz2⟩ := info_parts Tryz.infoRec
        go_wp2_with fail
        go_quiet (fail)
        have hbn : Below w3.heap.size w3 (w3.drewN nq) := below_drewN (Below.refl _ _) nq
        obtain ⟨w4, hw4⟩ : ∃ w4, w4 = w3.drewN nq := ⟨_, rfl⟩
        rw [← hw4] at hbn ⊢
        clear hw4
        have hz4 := hbn.size
        have HROW4 := Lib.hid (own_kept HROW.out (fun k hk => hbn.block k (World.ownsRow.lt HROW.out k hk).2))
        have HTB4 := Lib.hid ((hbn.block T hw3lt).trans HTB.out)
        have HBT4 := Lib.hid (HBT.out.trans (hbn.mono HBT.out.size))
        have e0 := (hbn.cell (p := ⟨T, 0, none⟩) hw3lt).trans tc0
        have e1 := (hbn.cell (p := ⟨T, 1, none⟩) hw3lt).trans tc1
        clear tc0 tc1 c0 c1 c2 c3 c4 c5 c6 c7 c8 c9
        obtain ⟨c0, c1, c2, c3, c4, c5, c6, c7, c8, c9⟩ := HC.out w4 (HB3.out.trans (hbn.mono HB3.out.size))
        have h63 : l.length + 1 ≤ maxLen := by unfold maxLen; have := HL.out; omega
        have h34 : (l.length + 1) * 120 ≤ 140737488355328 := by have := HL.out; omega
        have hT4 : T < w4.heap.size := by omega
        have HNT := Lib.hid (tree_ne_row HROW4.out HTB4.out)
        clear hbn
        go_wp2_with fail
        go_region_law (refine step_append_lies _ (by rfl) _ _ _ (by rfl) 0 30 i0 _ 10 120 Tryz.underlying43 hi0 hz0 hz1 hz2 rfl (by omega) (.slice A l.length cap) l.length (cells10 l) (by rfl) ((World.ownsRow.alloc HROW4.out _).drew) ⟨w4.heap.size, 0, none⟩ 1 1 (cellsR r) (by rfl) (by rfl) (World.news_of_block (cs := recCs r) (t := 30) (fr := (0, 0)) (heap_alloc_new w4 _)) (cellsR_one r) (by omega) h63 h34 (Nat.zero_le _) (w4.heap.size + 1) (by simp) ?_; intro gg cp w5 hown5 hgrow hat5 hlt5; have f5 : w5.heap[T]? = some (.cells #[.int .i64 room, .slice A l.length cap] 69 (0, 0)) := (hgrow.block T (by simp; omega) HNT.out).trans ((Below.heap_alloc w4 _ T hT4).trans HTB4.out); have f6 := cell_of_row w5 T 1 _ _ _ f5; simp only [List.getElem?_toArray, List.getElem?_cons_succ, List.getElem?_cons_zero] at f6; have f7 := frozen_of_row w5 T 1 _ _ f5)
        all_goals
          have hfin := TreeAt.snoc HBT4.out HTB4.out HROW4.out HG.out HV.out (w4.alloc (.cells (recCs r) 30)).drew (((Below.refl _ _).alloc (Nat.le_refl _) _).drew) hown5 hgrow (hat5.imp_right (fun h => h.trans (by simp))) hlt5 _ rfl
          have HFIN := Lib.hid hfin
          clear hfin hown5 hgrow hat5
          go_wp2_with fail
          go_ret
          refine ⟨by rw [HE1.out]; rfl, ?_⟩
          rw [HA.out, HE1.out]
          exact HFIN.out
end Go.Proofs.YtfeaonbeklmfgaaGreatDoor
