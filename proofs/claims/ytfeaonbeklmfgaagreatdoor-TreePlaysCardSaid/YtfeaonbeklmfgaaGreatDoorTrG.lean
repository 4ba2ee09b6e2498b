/- What package tree's Drop, Put, All, Copy and New answer, and what they leave. Condition: each parent lies ahead of its kids; names of at most 2^30 bytes. -/
import Derived.Test.YtfeaonbeklmfgaaGreatDoorTrD
import Derived.Test.YtfeaonbeklmfgaaGreatDoorTrF
import Derived.Laws.EntriesVeiled
namespace Go.Proofs.YtfeaonbeklmfgaaGreatDoor
set_option maxRecDepth 8000
open Go.RowKit

set_option maxHeartbeats 800000 in
theorem contains_any (A : Option Addr) (cap : Nat) (ls : List (List UInt8)) (s : List UInt8) (w : World) (hc : SCells w w.heap.size A ls) (hl : ls.length ≤ 1048576) :
    Calls Tryz.prog 59 #[.slice A ls.length cap, .string (S s)] w fun e w' => e = .returned (.bool (decide (s ∈ ls))) ∧ w = w' := by
  have HI : Hid (Calls Tryz.prog 74 #[.slice A ls.length cap, .string (S s)] w fun e w' => ∃ r : Int, e = .returned (.int .i64 r) ∧ (decide (0 ≤ r) = decide (s ∈ ls)) ∧ w = w') := Lib.hid (by
    have HC := Lib.hid hc
    clear hc
    go_enter Tryz.func74, Tryz.ntmps74
    go_wp2_with fail
    go_loopw [8] (fun i wr => ∃ k : Nat, k ≤ ls.length ∧ i = .int .i64 k ∧ (∀ j (hj : j < ls.length), j < k → ls[j] ≠ s) ∧ w = wr) (fun i _ => ls.length - (intOf i).toNat)
    case atStart => exact ⟨0, Nat.zero_le _, rfl, fun j _ hj => absurd hj (by omega), rfl⟩
    case round =>
      obtain ⟨k, hk, rfl, hall, rfl⟩ := hrel
      have HALL := Lib.hid hall
      clear hall
      by_cases hlt : k < ls.length
      · obtain ⟨b, off, rfl, -, hcc⟩ := HC.out (by omega)
        have hx := hcc k hlt
        have n0 : (0 : Int) ≤ (k : Int) := by omega
        have n1 : (k : Int) < (ls.length : Int) := by omega
        obtain ⟨x, hxx⟩ : ∃ x, x = ls[k] := ⟨_, rfl⟩
        rw [← hxx] at hx
        have hS := S_beq s x
        have HLT := Lib.hid hlt
        have HXX := Lib.hid hxx
        clear hxx hcc
        by_cases he : s = x
        · rw [decide_eq_true he] at hS
          have HF := Lib.hid (show decide ((0 : Int) ≤ (k : Int)) = decide (s ∈ ls) by rw [decide_eq_true n0, decide_eq_true (by rw [he, HXX.out]; exact List.getElem_mem hlt)])
          clear he
          go_wp2_with fail
          go_ret
          exact ⟨_, rfl, HF.out, rfl⟩
        · rw [decide_eq_false he] at hS
          have HE := Lib.hid (show ls[k] ≠ s from fun h => he (HXX.out.trans h).symm)
          clear he
          go_wp2_with fail
          go_roundw
          case rel =>
            refine ⟨k + 1, by have := HLT.out; omega, by go_num, fun j hj hjk => ?_, trivial⟩
            by_cases e : j = k
            · subst e; exact HE.out
            · exact HALL.out j hj (by omega)
          case measure => have := HLT.out; simp [intOf]; omega
      · have HF := Lib.hid (show decide ((0 : Int) ≤ -1) = decide (s ∈ ls) by
          rw [decide_eq_false (by omega), decide_eq_false]
          intro h
          obtain ⟨j, hj, e⟩ := List.getElem_of_mem h
          exact HALL.out j hj (by omega) e)
        go_wp2_with fail
        go_ret
        exact ⟨_, rfl, HF.out, rfl⟩)
  clear hc
  go_enter Tryz.func59, Tryz.ntmps59
  go_wp2_with fail
  refine HI.out.mono ?_
  rintro e w1 ⟨r, rfl, hr, rfl⟩
  have HR := Lib.hid hr
  clear hr
  go_wp2_with fail
  go_ret
  exact ⟨ret_boolT (by first | exact HR.out | (rw [← HR.out])), rfl⟩
set_option maxHeartbeats 800000 in
theorem drop1_any (gone : List (List UInt8)) (r : Rk.R) (k : Nat) (A : Option Addr) (cap : Nat) (W : World) (hB : W.cell? ⟨k, 0, none⟩ = some (.slice A gone.length cap)) (hk : k < W.heap.size) (hc : SCells W W.heap.size A gone) (hl : gone.length ≤ 1048576) :
    Calls Tryz.prog 58 #[recV r, .pointer (some ⟨k, 0, none⟩)] W fun e w' => e = .returned (.bool (decide (r.name ∈ gone))) ∧ Below W.heap.size W w' := by
  have hR := At10.new W r
  have hb : Below W.heap.size W (W.alloc (.cells (recCs r) 30)) := (Below.refl _ _).alloc (Nat.le_refl _) _
  have hcell := (hb.cell (p := ⟨k, 0, none⟩) hk).trans hB
  have hsc : SCells (W.alloc (.cells (recCs r) 30)) (W.alloc (.cells (recCs r) 30)).heap.size A gone := fun hn => by
    obtain ⟨b, off, e, hlt, h⟩ := hc hn
    exact ⟨b, off, e, Nat.lt_of_lt_of_le hlt hb.size, fun j hj => (hb.cell (p := ⟨b, off + j, none⟩) hlt).trans (h j hj)⟩
  have HCO := Lib.hid (contains_any A cap gone r.name _ hsc hl)
  obtain ⟨kind, name, parent, user, service, url, made, used, uses, fresh⟩ := r
  unfold recCs at hR hb hcell HCO
  unfold recV
  dsimp only at hR hb hcell HCO ⊢
  have d1 := hR.c1
  dsimp only at d1
  have HB := Lib.hid hb
  clear hR hb hB hc hsc
  obtain ⟨wb, hwb⟩ : ∃ wb, wb = W.alloc (.cells #[.int .i64 kind, .string (S name), .string (S parent), .string (S user), .string (S service), .string (S url), .int .i64 made, .int .i64 used, .int .i64 uses, .bool fresh] 30) := ⟨_, rfl⟩
  rw [← hwb] at d1 hcell HCO HB
  go_enter Tryz.func58, Tryz.ntmps58
  go_upto_region 1 with fail
  rw [← hwb]
  clear hwb
  go_wp2_with fail
  refine HCO.out.mono ?_
  rintro e w1 ⟨rfl, rfl⟩
  go_wp2_with fail
  go_ret
  exact ⟨rfl, HB.out⟩
theorem tree_del {G : Nat → Prop} {w0 w w1 : World} {T room : Nat} {l l' : List Rk.R} {v v' : Value} (hb0 : Below w0.heap.size w0 w) (h1 : w.heap[T]? = some (.cells #[.int .i64 room, v] 69 (0, 0))) (hr : RRow 0 w v l) (hG : G T) (hv : ∀ k, v.ownBlock = some k → G k) (hrow : RRow 0 w1 v' l') (ho : OutT (fun x => v.ownBlock = some x) w w1) (hown : ∀ k, v'.ownBlock = some k → v.ownBlock = some k) :
    w1.heap[T]? = some (.cells #[.int .i64 room, v] 69 (0, 0)) ∧ TreeAt G (w1.setCell ⟨T, 1, none⟩ v') T room l' ∧ OutT G w0 (w1.setCell ⟨T, 1, none⟩ v') := by
  have hTw : T < w.heap.size := (Array.getElem?_eq_some_iff.1 h1).1
  have hne := tree_ne_row hr h1
  have hT1 := (ho.block T hTw (fun e => hne e.symm)).trans h1
  refine ⟨hT1, ⟨_, heap_setCell_same w1 T 1 _ _ _ hT1, ?_, hG, fun k hk => hv k (hown k hk)⟩, ?_⟩
  · exact own_kept hrow (fun k hk => Below.heap_setCell w1 ⟨T, 1, none⟩ _ k (fun e => hne (by rw [hown k hk, e])))
  · have o1 : OutT G w0 w := OutT.of hb0
    have o2 : OutT G w w1 := ho.mono (fun x _ h => hv x h)
    have o3 : OutT G w1 (w1.setCell ⟨T, 1, none⟩ v') := OutT.set _ hG
    exact (o1.trans o2 (fun _ _ h => h) (fun _ _ h => h)).trans o3 (fun _ _ h => h) (fun _ _ h => h)
def DropPost (G : Nat → Prop) (w : World) (T room : Nat) (l' : List Rk.R) (gone : List (List UInt8)) (e : Ending) (w' : World) : Prop :=
  ∃ v, e = .returned v ∧ SRow w.heap.size w' v gone ∧ TreeAt (OrT G w.heap.size w'.heap.size) w' T room l' ∧ OutT G w w'
set_option maxHeartbeats 1600000 in
theorem below_any {G : Nat → Prop} {w : World} {T room m : Nat} {l : List Rk.R} (n : List UInt8) (hg : Tr.Good m l) (h : TreeAt G w T room l) (hl : l.length ≤ 1000000) :
    Calls Tryz.prog 21 #[.pointer (some ⟨T, 0, none⟩), .string (S n)] w fun e w' => ∃ v, e = .returned v ∧ SRow w.heap.size w' v (Tr.below l n) ∧ Below w.heap.size w w' := by
  obtain ⟨wz, hwz⟩ : ∃ wz, wz = ((w.alloc (.cells #[.pointer (some ⟨T, 0, none⟩)] 25)).alloc (.cells #[.slice none 0 0] 34)).alloc (.cells #[.nilFunc] 74) := ⟨_, rfl⟩
  have hsz : wz.heap.size = w.heap.size + 1 + 1 + 1 := by rw [hwz]; simp
  have hb0 : Below w.heap.size w (w.alloc (.cells #[.pointer (some ⟨T, 0, none⟩)] 25)) := (Below.refl _ _).alloc (Nat.le_refl _) _
  have hbz : Below w.heap.size w wz := by rw [hwz]; exact ((hb0.alloc (by simp) _).alloc (by simp; omega) _)
  have z0 : wz.heap[w.heap.size]? = some (.cells #[.pointer (some ⟨T, 0, none⟩)] 25 (0, 0)) := by
    rw [hwz]
    exact (Below.heap_alloc _ _ _ (by simp; omega)).trans ((Below.heap_alloc _ _ _ (by simp)).trans (heap_alloc_new w _))
  have z1 : wz.heap[w.heap.size + 1]? = some (.cells #[.slice none 0 0] 34 (0, 0)) := by
    rw [hwz]
    refine (Below.heap_alloc _ _ _ (by simp)).trans ?_
    have := heap_alloc_new (w.alloc (.cells #[.pointer (some ⟨T, 0, none⟩)] 25)) (.cells #[.slice none 0 0] 34)
    simpa using this
  have z2 : wz.heap[w.heap.size + 1 + 1]? = some (.cells #[.nilFunc] 74 (0, 0)) := by
    rw [hwz]
    have := heap_alloc_new ((w.alloc (.cells #[.pointer (some ⟨T, 0, none⟩)] 25)).alloc (.cells #[.slice none 0 0] 34)) (.cells #[.nilFunc] 74)
    simpa using this
  obtain ⟨wy, hwy⟩ : ∃ wy, wy = wz.setCell ⟨w.heap.size + 1 + 1, 0, none⟩ (tellF (w.heap.size + 1) w.heap.size (w.heap.size + 1 + 1)) := ⟨_, rfl⟩
  have hby : Below w.heap.size w wy := by rw [hwy]; exact hbz.setCell (p := ⟨w.heap.size + 1 + 1, 0, none⟩) (by show w.heap.size ≤ w.heap.size + 1 + 1; omega) _
  have hws : WS w wy T (w.heap.size + 1) w.heap.size (w.heap.size + 1 + 1) (.slice none 0 0) [] := by
    refine ⟨?_, ?_, ?_, World.ownsRow_nil _ _ _ _, by omega, hby⟩
    · rw [hwy]
      exact (Below.heap_setCell wz ⟨w.heap.size + 1 + 1, 0, none⟩ _ w.heap.size (by show w.heap.size ≠ w.heap.size + 1 + 1; omega)).trans z0
    · rw [hwy]
      exact heap_setCell_same wz (w.heap.size + 1 + 1) 0 _ _ _ z2
    · rw [hwy]
      exact (Below.heap_setCell wz ⟨w.heap.size + 1 + 1, 0, none⟩ _ (w.heap.size + 1) (by show w.heap.size + 1 ≠ w.heap.size + 1 + 1; omega)).trans z1
  have hc2 := cell_of_row wz (w.heap.size + 1 + 1) 0 _ _ _ z2
  have hf2 := frozen_of_row wz (w.heap.size + 1 + 1) 0 _ _ z2
  simp only [List.getElem?_toArray, List.getElem?_cons_zero] at hc2
  have HHAS := Lib.hid (has_any n (h.keep hby) (Nat.le_trans hl (by omega)))
  have hble : ∀ (hn : Tr.pl l n < l.length), (Tr.bel l l.length n).length ≤ 1000000 := fun hn => by
    have h1 := hg.drop_count hn
    unfold Tr.below at h1
    rw [if_pos (Tr.has_iff.2 hn)] at h1
    rw [h1]
    refine Nat.le_trans (List.length_filter_le _ _) ?_
    rw [List.length_map]
    exact hl
  have HTELL := Lib.hid (fun (hn : Tr.pl l n < l.length) (w' : World) (hb : Below wy.heap.size wy w') => tell_any (a := w.heap.size + 1) (bt := w.heap.size) (c := w.heap.size + 1 + 1) hg h (Nat.le_trans hl (by omega)) l.length n (.slice none 0 0) [] w' hn (by omega) (by have := hble hn; simp; omega) (hws.keep hb))
  have HBN := Lib.hid (fun (hn : ¬ Tr.pl l n < l.length) => Tr.below_none (l := l) hn)
  have HBY := Lib.hid (fun (hn : Tr.pl l n < l.length) => show Tr.below l n = Tr.bel l l.length n by unfold Tr.below; rw [if_pos (Tr.has_iff.2 hn)])
  have HWS := Lib.hid hws
  have hq : Tr.has l n = decide (Tr.pl l n < l.length) := rfl
  clear hws hby hbz hb0 z0 z1 z2 hble h hg
  go_enter Tryz.func21, Tryz.ntmps21
  go_upto_region 3 with fail
  rw [← hwz]
  clear hwz
  have HWY := Lib.hid hwy
  clear hwy
  go_upto_region 4 with fail
  rw [← HWY.out]
  clear HWY hc2 hf2 hsz
  have d0 := cell_of_row wy w.heap.size 0 _ _ _ HWS.out.tree
  simp only [List.getElem?_toArray, List.getElem?_cons_zero] at d0
  go_wp2_with fail
  refine HHAS.out.mono ?_
  rintro e w1 ⟨rfl, hb1⟩
  have hw1 := HWS.out.keep hb1
  have d1 := cell_of_row w1 (w.heap.size + 1) 0 _ _ _ hw1.names
  have d2 := cell_of_row w1 (w.heap.size + 1 + 1) 0 _ _ _ hw1.self
  simp only [List.getElem?_toArray, List.getElem?_cons_zero] at d1 d2
  clear d0 HHAS
  by_cases hn : Tr.pl l n < l.length
  · have hqt : Tr.has l n = true := Tr.has_iff.2 hn
    have HTE := Lib.hid (HTELL.out hn w1 hb1)
    have HB := Lib.hid (HBY.out hn)
    clear hn HTELL HBY HBN hq hw1 hb1
    rw [hqt]
    clear hqt
    go_wp2_with fail
    refine HTE.out.mono ?_
    rintro e w2 ⟨rfl, v2, hw2, -, -⟩
    have e1 := cell_of_row w2 (w.heap.size + 1) 0 _ _ _ hw2.names
    simp only [List.getElem?_toArray, List.getElem?_cons_zero] at e1
    have HW2 := Lib.hid hw2
    clear d1 d2 hw2
    go_wp2_with fail
    go_ret
    exact ⟨v2, rfl, by have h5 := HW2.out.row; rw [List.nil_append] at h5; rw [HB.out]; exact h5, HW2.out.below⟩
  · have hqf : Tr.has l n = false := by rw [hq, decide_eq_false hn]
    have HB := Lib.hid (HBN.out hn)
    have HW1 := Lib.hid hw1
    clear hn HTELL HBY HBN hq hw1 hb1
    rw [hqf]
    clear hqf
    go_wp2_with fail
    go_ret
    exact ⟨_, rfl, by rw [HB.out]; exact World.ownsRow_nil _ _ _ _, HW1.out.below⟩
theorem below_len {m : Nat} {l : List Rk.R} (n : List UInt8) (hg : Tr.Good m l) : (Tr.below l n).length ≤ l.length := by
  by_cases hn : Tr.pl l n < l.length
  · rw [hg.drop_count hn]
    refine Nat.le_trans (List.length_filter_le _ _) ?_
    rw [List.length_map]
    exact Nat.le_refl _
  · rw [Tr.below_none hn]
    exact Nat.zero_le _
set_option maxHeartbeats 1600000 in
theorem drop_any {G : Nat → Prop} {w : World} {T room m : Nat} {l : List Rk.R} (n : List UInt8) (hg : Tr.Good m l) (h : TreeAt G w T room l) (hl : l.length ≤ 1000000) :
    Calls Tryz.prog 36 #[.pointer (some ⟨T, 0, none⟩), .string (S n)] w (DropPost G w T room (Tr.drop l n) (Tr.below l n)) := by
  have HBE := Lib.hid (below_any n hg h hl)
  have hbl := below_len n hg
  obtain ⟨gone, hgn⟩ : ∃ gone, gone = Tr.below l n := ⟨_, rfl⟩
  have HD : Hid (Tr.drop l n = l.filter fun old => !decide (old.name ∈ gone)) := Lib.hid (by rw [hgn]; rfl)
  rw [← hgn] at HBE hbl ⊢
  have HT := Lib.hid h
  have HL := Lib.hid (And.intro hbl hl)
  clear hgn hg h hbl hl
  go_enter Tryz.func36, Tryz.ntmps36
  go_wp2_with fail
  refine HBE.out.mono ?_
  rintro e w1 ⟨gv, rfl, hgr, hb1⟩
  have hba : Below w1.heap.size w1 (w1.alloc (.cells #[gv] 34)) := (Below.refl _ _).alloc (Nat.le_refl _) _
  have hblk := heap_alloc_new w1 (.cells #[gv] 34)
  have hgr2 := own_below hgr hba
  have hltk : w1.heap.size < (w1.alloc (.cells #[gv] 34)).heap.size := by simp
  have hbb := hb1.trans (hba.mono hb1.size)
  obtain ⟨gA, gc, rfl, -⟩ := readsS hgr
  clear hgr hba
  go_upto_region 2 with fail
  generalize w1.alloc (.cells #[.slice gA gone.length gc] 34) = wb at hblk hgr2 hltk hbb ⊢
  obtain ⟨v, t1, t2, t3, t4⟩ := HT.out.keep hbb
  obtain ⟨A, cap, rfl, -⟩ := t2.form
  have tc1 := cell_of_row wb T 1 _ _ _ t1
  have tck := cell_of_row wb w1.heap.size 0 _ _ _ hblk
  simp only [List.getElem?_toArray, List.getElem?_cons_succ, List.getElem?_cons_zero] at tc1 tck
  have hz1 := hb1.size
  have hltv : ∀ x, (Value.slice A l.length cap).ownBlock = some x → x < w.heap.size := fun x hx => by
    obtain ⟨v', s1, s2, s3, s4⟩ := HT.out
    have e := (hbb.block T HT.out.lt).trans s1
    rw [t1] at e
    injection e with e
    injection e with e _ _
    have e2 := congrArg (fun a => a[1]?) e
    simp at e2
    subst e2
    exact (World.ownsRow.lt s2 x hx).2
  obtain ⟨gA', gc', ge, hgc⟩ := readsS hgr2
  have hPred : PredOk 58 w1.heap.size (fun x => (Value.slice A l.length cap).ownBlock = some x) wb (fun old => decide (old.name ∈ gone)) := fun r w' ho =>
    drop1_any gone r w1.heap.size gA gc w' ((World.cell?_of_block (ho.block _ hltk (fun e => by have h : w1.heap.size < w.heap.size := hltv _ e; omega))).trans tck) (Nat.lt_of_lt_of_le hltk ho.size) (fun hn => by
      injection ge with g1 g2 g3
      subst g1
      obtain ⟨b, off, e, hlt, hc⟩ := hgc hn
      refine ⟨b, off, e, Nat.lt_of_lt_of_le hlt ho.size, fun j hj => (World.cell?_of_block (ho.block b hlt (fun e2 => ?_))).trans (hc j hj)⟩
      have := hltv b e2
      have := (World.ownsRow.lt hgr2 b (by rw [e]; rfl)).1
      omega) (by have := HL.out; omega)
  have HDE := Lib.hid (deleteR_any 58 w1.heap.size (.inr rfl) _ A cap l wb hPred t2 (by have := HL.out.2; omega))
  have HTB := Lib.hid (And.intro t1 (And.intro t2 (And.intro t3 t4)))
  have HBB := Lib.hid hbb
  have HGR := Lib.hid (And.intro hgr2 (And.intro hblk (And.intro hltk hltv)))
  clear tck hPred hgc ge t1 t2 t3 t4 hbb hgr2 hblk hltk hltv HBE hb1
  go_wp2_with fail
  refine HDE.out.mono ?_
  rintro e w2 ⟨v', rfl, hrow2, ho2, hown2⟩
  obtain ⟨A2, cap2, hv2, -⟩ := hrow2.form
  generalize (l.filter fun old => !decide (old.name ∈ gone)).length = n2 at hv2
  obtain ⟨f1, f2, f3⟩ := tree_del HBB.out HTB.out.1 HTB.out.2.1 HTB.out.2.2.1 HTB.out.2.2.2 hrow2 ho2 hown2
  have d1 := cell_of_row w2 T 1 _ _ _ f1
  have d2 := frozen_of_row w2 T 1 _ _ f1
  simp only [List.getElem?_toArray, List.getElem?_cons_succ, List.getElem?_cons_zero] at d1
  have hk2 : (w2.setCell ⟨T, 1, none⟩ v').heap[w1.heap.size]? = some (.cells #[.slice gA gone.length gc] 34 (0, 0)) := by
    have hTw := HT.out.lt
    exact (Below.heap_setCell w2 ⟨T, 1, none⟩ v' w1.heap.size (by show w1.heap.size ≠ T; omega)).trans ((ho2.block _ HGR.out.2.2.1 (fun e => by have := HGR.out.2.2.2 _ e; omega)).trans HGR.out.2.1)
  have d3 := cell_of_row _ w1.heap.size 0 _ _ _ hk2
  simp only [List.getElem?_toArray, List.getElem?_cons_zero] at d3
  have HF := Lib.hid (show DropPost G w T room (Tr.drop l n) gone (.returned (.slice gA gone.length gc)) (w2.setCell ⟨T, 1, none⟩ v') from by
    refine ⟨_, rfl, ?_, ?_, f3⟩
    · have hTw := HT.out.lt
      refine own_kept HGR.out.1 (fun k hk => ?_)
      have hk1 := World.ownsRow.lt HGR.out.1 k hk
      exact (Below.heap_setCell w2 ⟨T, 1, none⟩ v' k (by show k ≠ T; omega)).trans (ho2.block k hk1.2 (fun e => by have := HGR.out.2.2.2 _ e; omega))
    · rw [HD.out]
      exact f2.mono (fun x h => .inl h))
  clear f1 f2 f3 hrow2 ho2 hown2 hk2 HDE
  subst hv2
  go_wp2_with fail
  go_ret
  exact HF.out
end Go.Proofs.YtfeaonbeklmfgaaGreatDoor
