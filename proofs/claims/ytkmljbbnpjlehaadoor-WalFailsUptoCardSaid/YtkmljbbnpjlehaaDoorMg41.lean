/- WalFails. Condition: the table of sums reads as its text lays it. WalFails, its numbers read. Condition: the table of sums reads as its text lays it. -/
import Derived.Test.YtkmljbbnpjlehaaDoorMg40
namespace Go.Proofs.YtkmljbbnpjlehaaDoor
set_option maxRecDepth 8000
open Go.RowKit

theorem step_load_mid {ops : Array Oper} {o : Oper} {a : Act} {w : World} {K : Act → World → Prop} {Q : Exit → Act → World → Prop} {E : Prop} (hgd : o.guard = none) (ty : TypeId) (x : Operand) (ho : o.op = .load ty x)
    (b off : Nat) (hx : a.eval x = .pointer (some ⟨b, off, none⟩)) (cs : List Value) (d : TypeDesc) (hc : w.rangeAt b off cs) (hu : Tryd.prog.underlying ty = some d) (hd : d.isRow = true) (hi : (Tryd.prog.info? ty).map (·.size) = some cs.length)
    (h : K (a.put o.dst (.agg cs.toArray)) w) : if Region.wanted o (yielded ops a.tmps) = true then Oper.wp Tryd.prog o a w K Q else E := by
  rw [if_pos (by simp [Region.wanted, hgd])]
  exact wp_load_mid ty x ho b off hx cs d hc hu hd hi h
theorem Tryd.infoBool9 : (Tryd.prog.info? 4).map (fun i => (i.zero, i.size, i.bytes)) = some (some (.bool false), 1, 1) := by kernel_rfl
theorem made_bools (n : Nat) : madeCells (Value.bool false).cells (n * 1) = (List.replicate n (Value.bool false)).toArray := by
  apply Array.ext
  · rw [size_madeCells]; simp
  · intro i h1 h2
    have e1 : (madeCells (Value.bool false).cells (n * 1))[i] = (#[Value.bool false] : Array Value)[i % 1]! := by
      show ((Array.range (n * 1)).map fun x => (#[Value.bool false] : Array Value)[x % (#[Value.bool false] : Array Value).size]!)[i]'(by simpa [madeCells] using h1) = _
      rw [Array.getElem_map, Array.getElem_range]
      rfl
    rw [e1, Nat.mod_one]
    simp only [List.getElem_toArray, List.getElem_replicate]
    rfl
theorem make_bools (w : World) (m : Nat) (hm : m ≤ 1048576) : (Instr.makeSlice 38 (.int .i64 (m : Int)) (.int .i64 (m : Int))).run Tryd.prog w = .ok (.slice (some ⟨w.heap.size, 0, none⟩) m m) (w.alloc (.cells (List.replicate m (.bool false)).toArray 4)) := by
  obtain ⟨i0, hi0, hz0, hz1, hz2⟩ := info_parts Tryd.infoBool9
  have := run_make (P := Tryd.prog) w 38 4 i0 _ Tryd.underlying38 hi0 hz0 .i64 .i64 m m (by omega) (Int.le_refl _) (by rw [hz2]; omega) (by omega)
  rw [hz1, Int.toNat_natCast, made_bools] at this
  exact this
/-- A plan with one fault. -/
def planP (k : Nat) : List Bool := List.replicate k false ++ [true]
theorem planP_len (k : Nat) : (planP k).length = k + 1 := by simp [planP]
theorem plan_at (w : World) (k : Nat) : ∀ j (hj : j < (planP k).length), (w.alloc (.cells ((Array.replicate (k + 1) (.bool false)).setIfInBounds k (.bool true)) 4)).cell? ⟨w.heap.size, j, none⟩ = some (.bool (planP k)[j]) := by
  intro j hj
  have hj2 : j < k + 1 := by rw [← planP_len k]; exact hj
  rw [cell_of_row _ _ j _ _ _ (heap_alloc_new w _)]
  rw [Array.getElem?_eq_getElem (by simp; omega), Array.getElem_setIfInBounds (by simp; omega)]
  have e : (planP k)[j] = decide (k = j) := by
    have h : (planP k)[j]? = some (decide (k = j)) := by
      unfold planP
      by_cases h : k = j
      · subst h
        rw [List.getElem?_append_right (by simp)]
        simp
      · rw [List.getElem?_append_left (by simp; omega), List.getElem?_replicate, if_pos (by omega)]
        simp [h]
    rw [List.getElem?_eq_getElem hj] at h
    exact Option.some.inj h
  rw [e]
  by_cases hk : k = j
  · rw [if_pos hk, decide_eq_true hk]
  · rw [if_neg hk, decide_eq_false hk, Array.getElem_replicate]
set_option maxHeartbeats 6400000 in
theorem walFails_any (bl at9 : Nat) (A : Option Addr) (cap n : Nat) (l : List Wl.O) (ox oi : Int) (ob : List UInt8) (ol : List (List UInt8)) (op : List Bool) (mA mL mG : Option Addr) (mcA mcL mcG : Nat) (px pi9 : Int) (pb : List UInt8) (pl : List (List UInt8)) (pp : List Bool) (kA kL kG : Option Addr) (kcA kcL kcG : Nat) (w : World) (hH : Hs w) (hz : 0 < w.heap.size) (hbl : bl ≤ 255) (hat : at9 ≤ 255)
    (hn : l.length = n) (hl : WosIn w w.heap.size A l) (hll : n ≤ 1048576) (ho : WoIn w w.heap.size ⟨ox, oi, ob, ol, op⟩ ⟨mA, mcA, mL, mcL, mG, mcG⟩) (hp : WoIn w w.heap.size ⟨px, pi9, pb, pl, pp⟩ ⟨kA, kcA, kL, kcL, kG, kcG⟩) :
    Calls Tryd.prog 6 #[.int .u8 (bl : Int), .slice A n cap, .agg #[.int .i64 ox, .int .i64 oi, .slice mA ob.length mcA, .slice mL ol.length mcL, .slice mG op.length mcG], .int .u8 (at9 : Int), .agg #[.int .i64 px, .int .i64 pi9, .slice kA pb.length kcA, .slice kL pl.length kcL, .slice kG pp.length kcG]] w fun e w' => e = .returned (.bool true) ∧ Below w.heap.size w w' := by
  obtain ⟨nb, hnb⟩ : ∃ q, q = ob.length := ⟨_, rfl⟩
  obtain ⟨nl, hnl⟩ : ∃ q, q = ol.length := ⟨_, rfl⟩
  obtain ⟨np, hnp⟩ : ∃ q, q = op.length := ⟨_, rfl⟩
  obtain ⟨yb, hyb⟩ : ∃ q, q = pb.length := ⟨_, rfl⟩
  obtain ⟨yl, hyl⟩ : ∃ q, q = pl.length := ⟨_, rfl⟩
  obtain ⟨yp, hyp⟩ : ∃ q, q = pp.length := ⟨_, rfl⟩
  obtain ⟨few, hfew⟩ : ∃ q, q = Wl.fewO (⟨ox, oi, ob, ol, op⟩ :: ⟨px, pi9, pb, pl, pp⟩ :: l) := ⟨_, rfl⟩
  have HOI := Lib.hid ho
  have HPI := Lib.hid hp
  obtain ⟨hob, hol, _, hcb, hcl, hlq, _, _⟩ := ho
  obtain ⟨hpb, hpl, _, kcb, kcl, klq, _, _⟩ := hp
  dsimp only at hob hol hcb hcl hlq hpb hpl kcb kcl klq
  rw [← hnb] at hcb
  rw [← hnl] at hcl
  rw [← hyb] at kcb
  rw [← hyl] at kcl
  rw [← hnb, ← hnl, ← hnp, ← hyb, ← hyl, ← hyp]
  obtain ⟨wb, hwb⟩ : ∃ wb, wb = (w.alloc (.cells #[.int .i64 ox, .int .i64 oi, .slice mA nb mcA, .slice mL nl mcL, .slice mG np mcG] 40)).alloc (.cells #[.int .i64 px, .int .i64 pi9, .slice kA yb kcA, .slice kL yl kcL, .slice kG yp kcG] 40) := ⟨_, rfl⟩
  have hbb : Below w.heap.size w wb := by rw [hwb]; exact ((Below.refl _ _).alloc (Nat.le_refl _) _).alloc (by simp) _
  have hbx : wb.rangeAt w.heap.size 0 [.int .i64 ox, .int .i64 oi, .slice mA nb mcA, .slice mL nl mcL, .slice mG np mcG] := fun j v hv => by
    rw [Nat.zero_add, hwb]
    exact cell_of_row _ _ j _ _ _ (allocAt2 rfl) |>.trans (by simpa using hv)
  have hbn : wb.rangeAt (w.heap.size + 1) 0 [.int .i64 px, .int .i64 pi9, .slice kA yb kcA, .slice kL yl kcL, .slice kG yp kcG] := fun j v hv => by
    rw [Nat.zero_add, hwb]
    exact cell_of_row _ _ j _ _ _ (allocAt (by simp)) |>.trans (by simpa using hv)
  have hbl1 : w.heap.size + 1 < wb.heap.size := by rw [hwb]; simp
  have HBX : Hid (∀ w', Below wb.heap.size wb w' → w'.rangeAt w.heap.size 0 [.int .i64 ox, .int .i64 oi, .slice mA nb mcA, .slice mL nl mcL, .slice mG np mcG]) := Lib.hid (fun w' hb' j v hv => (hb'.cell (p := ⟨w.heap.size, 0 + j, none⟩) (by show w.heap.size < _; omega)).trans (hbx j v hv))
  have HBN : Hid (∀ w', Below wb.heap.size wb w' → w'.rangeAt (w.heap.size + 1) 0 [.int .i64 px, .int .i64 pi9, .slice kA yb kcA, .slice kL yl kcL, .slice kG yp kcG]) := Lib.hid (fun w' hb' j v hv => (hb'.cell (p := ⟨w.heap.size + 1, 0 + j, none⟩) hbl1).trans (hbn j v hv))
  have HAW := Lib.hid (awake10_any wb (hH.next hbb) (Nat.lt_of_lt_of_le hz hbb.size))
  have HBB := Lib.hid hbb
  have HN := Lib.hid hn
  have HNB := Lib.hid hnb
  have HNL := Lib.hid hnl
  have HNP := Lib.hid hnp
  have HYB := Lib.hid hyb
  have HYL := Lib.hid hyl
  have HYP := Lib.hid hyp
  have HFEW := Lib.hid hfew
  have HH := Lib.hid hH
  have HHLT := Lib.hid hz
  have HL := Lib.hid hl
  have HO := Lib.hid (And.intro hob (And.intro hol (And.intro hpb hpl)))
  have HLQ := Lib.hid (And.intro hlq klq)
  clear hn hnb hnl hnp hyb hyl hyp hfew hH hz hl hob hol hpb hpl hlq klq hbb hbx hbn
  go_enter Tryd.func6, Tryd.ntmps6
  go_wp2_with fail
  rw [← hwb]
  clear hwb
  refine HAW.out.mono ?_
  rintro _ w1 ⟨rfl, hb1⟩
  have HB1 := Lib.hid hb1
  have hrg1 := HBX.out w1 hb1
  have hrn1 := HBN.out w1 hb1
  have HIN1 : Hid (WoIn w1 w1.heap.size ⟨ox, oi, ob, ol, op⟩ ⟨mA, mcA, mL, mcL, mG, mcG⟩ ∧ WoIn w1 w1.heap.size ⟨px, pi9, pb, pl, pp⟩ ⟨kA, kcA, kL, kcL, kG, kcG⟩ ∧ WosIn w1 w1.heap.size A l) := Lib.hid (by
    have hq := HBB.out.trans (hb1.mono HBB.out.size)
    exact ⟨(HOI.out.keep hq).moreB hq.size, (HPI.out.keep hq).moreB hq.size, fun h0 => by
      obtain ⟨b, off, e, hlt, hc⟩ := (HL.out.keep hq) h0
      exact ⟨b, off, e, Nat.lt_of_lt_of_le hlt hq.size, fun k hk => by
        obtain ⟨m, h2, h3⟩ := hc k hk
        exact ⟨m, h2, h3.moreB hq.size⟩⟩⟩)
  clear hb1 HAW
  have HNN : Hid (l.length = n ∧ n ≤ 1048576) := Lib.hid ⟨HN.out, hll⟩
  have hba : Below w1.heap.size w1 (w1.alloc (.cells #[.int .i64 ox, .int .i64 oi, .slice mA nb mcA, .slice mL nl mcL, .slice mG np mcG, .int .i64 px, .int .i64 pi9, .slice kA yb kcA, .slice kL yl kcL, .slice kG yp kcG] 40)) := (Below.refl _ _).alloc (Nat.le_refl _) _
  have HPRE : Hid (∀ k (_ : k < [(⟨ox, oi, ob, ol, op⟩ : Wl.O), ⟨px, pi9, pb, pl, pp⟩].length), ∃ m : Wo, (∀ j v, (woCells [(⟨ox, oi, ob, ol, op⟩ : Wl.O), ⟨px, pi9, pb, pl, pp⟩][k] m)[j]? = some v → [.int .i64 ox, .int .i64 oi, .slice mA nb mcA, .slice mL nl mcL, .slice mG np mcG, .int .i64 px, .int .i64 pi9, .slice kA yb kcA, .slice kL yl kcL, .slice kG yp kcG][k * 5 + j]? = some v) ∧ WoIn (w1.alloc (.cells #[.int .i64 ox, .int .i64 oi, .slice mA nb mcA, .slice mL nl mcL, .slice mG np mcG, .int .i64 px, .int .i64 pi9, .slice kA yb kcA, .slice kL yl kcL, .slice kG yp kcG] 40)) w1.heap.size [(⟨ox, oi, ob, ol, op⟩ : Wl.O), ⟨px, pi9, pb, pl, pp⟩][k] m) := Lib.hid (fun k hk => by
    have hk2 : k = 0 ∨ k = 1 := by simp at hk; omega
    rw [HNB.out, HNL.out, HNP.out, HYB.out, HYL.out, HYP.out]
    rcases hk2 with rfl | rfl
    · refine ⟨⟨mA, mcA, mL, mcL, mG, mcG⟩, fun j v hv => ?_, ?_⟩
      · have hj : j < 5 := (List.getElem?_eq_some_iff.1 hv).1
        rw [Nat.zero_mul, Nat.zero_add]
        exact (List.getElem?_append_left (l₁ := woCells ⟨ox, oi, ob, ol, op⟩ ⟨mA, mcA, mL, mcL, mG, mcG⟩) (l₂ := woCells ⟨px, pi9, pb, pl, pp⟩ ⟨kA, kcA, kL, kcL, kG, kcG⟩) hj).trans hv
      · have h := HIN1.out.1.keep hba
        rw [HNB.out, HNL.out, HNP.out, HYB.out, HYL.out, HYP.out] at h
        exact h
    · refine ⟨⟨kA, kcA, kL, kcL, kG, kcG⟩, fun j v hv => ?_, ?_⟩
      · have h := List.getElem?_append_right (l₁ := woCells ⟨ox, oi, ob, ol, op⟩ ⟨mA, mcA, mL, mcL, mG, mcG⟩) (l₂ := woCells ⟨px, pi9, pb, pl, pp⟩ ⟨kA, kcA, kL, kcL, kG, kcG⟩) (i := 5 + j) (Nat.le_add_right 5 j)
        rw [woCells_len, Nat.add_sub_cancel_left] at h
        exact h.trans hv
      · have h := HIN1.out.2.1.keep hba
        rw [HNB.out, HNL.out, HNP.out, HYB.out, HYL.out, HYP.out] at h
        exact h)
  have HWOS := Lib.hid (HIN1.out.2.2.keep hba)
  have HOWN : Hid (World.ownsRow (w1.alloc (.cells #[.int .i64 ox, .int .i64 oi, .slice mA nb mcA, .slice mL nl mcL, .slice mG np mcG, .int .i64 px, .int .i64 pi9, .slice kA yb kcA, .slice kL yl kcL, .slice kG yp kcG] 40)) w1.heap.size 40 5 (.slice (some ⟨w1.heap.size, 0, none⟩) 2 2) 2 [.int .i64 ox, .int .i64 oi, .slice mA nb mcA, .slice mL nl mcL, .slice mG np mcG, .int .i64 px, .int .i64 pi9, .slice kA yb kcA, .slice kL yl kcL, .slice kG yp kcG]) := Lib.hid ⟨rfl, .inr ⟨w1.heap.size, 2, _, rfl, Nat.le_refl _, heap_alloc_new w1 _, Nat.le_refl _, by unfold maxLen; omega, rfl, rfl⟩⟩
  have HBA := Lib.hid hba
  clear hba
  go_wp2_with (first
    | ((with_reducible refine wpList_load_mid (op := ⟨some 26, _, _, _, _, _⟩) rfl 40 _ rfl w.heap.size 0 ?_ [.int .i64 ox, .int .i64 oi, .slice mA nb mcA, .slice mL nl mcL, .slice mG np mcG] _ hrg1 Tryd.underlying40 rfl (by kernel_rfl) ?_); exact rfl)
    | ((with_reducible refine wpList_load_mid (op := ⟨some 27, _, _, _, _, _⟩) rfl 40 _ rfl (w.heap.size + 1) 0 ?_ [.int .i64 px, .int .i64 pi9, .slice kA yb kcA, .slice kL yl kcL, .slice kG yp kcG] _ hrn1 Tryd.underlying40 rfl (by kernel_rfl) ?_); exact rfl)
    | (at_builtin; refine ops_copy ?hw1 (.tmp 28) (.tmp 29) w1.heap.size w1.heap.size A 2 n cap _ [⟨ox, oi, ob, ol, op⟩, ⟨px, pi9, pb, pl, pp⟩] l (by rfl) (by rfl) (by rfl) HNN.out.1 rfl (by omega) (by omega) HOWN.out HBA.out.size HPRE.out HWOS.out HNN.out.2 ?_; rotate_right; intro g1 cap1 w2 hwos2 hb2 hg2))
  have HFW := Lib.hid (fewO_any w2 (some ⟨g1, 0, none⟩) cap1 (⟨ox, oi, ob, ol, op⟩ :: ⟨px, pi9, pb, pl, pp⟩ :: l) hwos2 (by rw [List.length_cons, List.length_cons, HNN.out.1]; omega))
  rw [List.length_cons, List.length_cons, HNN.out.1, show n + 1 + 1 = 2 + n by omega, ← HFEW.out] at HFW
  have B2 := Lib.hid (HBA.out.trans hb2)
  have HBX1 : Hid (∀ w', Below w1.heap.size w1 w' → w'.rangeAt w.heap.size 0 [.int .i64 ox, .int .i64 oi, .slice mA nb mcA, .slice mL nl mcL, .slice mG np mcG]) := Lib.hid (fun w' hb' => HBX.out w' (HB1.out.trans (hb'.mono HB1.out.size)))
  have HBN1 : Hid (∀ w', Below w1.heap.size w1 w' → w'.rangeAt (w.heap.size + 1) 0 [.int .i64 px, .int .i64 pi9, .slice kA yb kcA, .slice kL yl kcL, .slice kG yp kcG]) := Lib.hid (fun w' hb' => HBN.out w' (HB1.out.trans (hb'.mono HB1.out.size)))
  have B0 := Lib.hid (HBB.out.trans ((HB1.out.trans (B2.out.mono HB1.out.size)).mono HBB.out.size))
  clear hwos2 hb2 hg2 hrg1 hrn1 HPRE HWOS HOWN HBA
  refine HFW.out.mono ?_
  rintro _ w' ⟨rfl, rfl⟩
  clear HFW
  cases few with
  | false =>
    go_wp2_with fail
    go_ret
    exact ⟨rfl, B0.out⟩
  | true =>
    have q0 := HBX1.out w2 B2.out 0 _ rfl
    have r0 := HBN1.out w2 B2.out 0 _ rfl
    simp only [Nat.zero_add] at q0 r0
    by_cases h12 : ox ≠ 1 ∧ ox ≠ 2
    · have i1 : (ox != 1) = true := by simpa using h12.1
      have i2 : (ox != 2) = true := by simpa using h12.2
      have j1 : ¬ ox = 1 := h12.1
      have j2 : ¬ ox = 2 := h12.2
      clear h12
      go_wp2_with fail
      go_ret
      exact ⟨rfl, B0.out⟩
    have hor : ox = 1 ∨ ox = 2 := by omega
    clear h12
    by_cases g12 : px ≠ 1 ∧ px ≠ 2
    · have i1 : (px != 1) = true := by simpa using g12.1
      have i2 : (px != 2) = true := by simpa using g12.2
      have j1 : ¬ px = 1 := g12.1
      have j2 : ¬ px = 2 := g12.2
      clear g12
      rcases hor with rfl | rfl
      · go_wp2_with fail
        go_ret
        exact ⟨rfl, B0.out⟩
      · go_wp2_with fail
        go_ret
        exact ⟨rfl, B0.out⟩
    have gor : px = 1 ∨ px = 2 := by omega
    clear g12
    go_upto_region 3 with fail
    go_cut [53] (fun t wx => t = .bool false ∧ wx = w2)
    case first =>
      rcases hor with rfl | rfl
      · rcases gor with rfl | rfl
        · go_wp2_with fail
          go_meet
          exact ⟨rfl, rfl⟩
        · go_wp2_with fail
          go_meet
          exact ⟨rfl, rfl⟩
      · rcases gor with rfl | rfl
        · go_wp2_with fail
          go_meet
          exact ⟨rfl, rfl⟩
        · go_wp2_with fail
          go_meet
          exact ⟨rfl, rfl⟩
    case rest =>
    obtain ⟨hc1, hc2⟩ := hcut
    subst hc1
    replace hc2 := hc2.symm
    subst hc2
    have HOR := Lib.hid (And.intro hor gor)
    clear q0 r0 hor gor
    have hfa : ∀ x ∈ (⟨ox, oi, ob, ol, op⟩ : Wl.O) :: ⟨px, pi9, pb, pl, pp⟩ :: l, Fr.few x.l = true := fun x hx => by
      have h := HFEW.out.symm
      unfold Wl.fewO at h
      have h2 := List.all_eq_true.1 (Bool.and_eq_true_iff.1 h).1 x hx
      unfold Wl.okO at h2
      exact (Bool.and_eq_true_iff.1 h2).1
    have HFO : Hid (Fr.okTotal ol ≤ 16384 ∧ Fr.okTotal pl ≤ 16384) := Lib.hid ⟨Nat.le_trans (Fr.okTotal_few (hfa _ (List.mem_cons_self))) (by decide), Nat.le_trans (Fr.okTotal_few (hfa _ (List.mem_cons_of_mem _ List.mem_cons_self))) (by decide)⟩
    have hq2 := HBB.out.trans ((HB1.out.trans (B2.out.mono HB1.out.size)).mono HBB.out.size)
    have HIN2 : Hid (WosIn w2 w2.heap.size A l) := Lib.hid (fun h0 => by
      obtain ⟨b, off, e, hlt, hc⟩ := (HIN1.out.2.2.keep B2.out) h0
      exact ⟨b, off, e, Nat.lt_of_lt_of_le hlt B2.out.size, fun k hk => by
        obtain ⟨m, h2, h3⟩ := hc k hk
        exact ⟨m, h2, h3.moreB B2.out.size⟩⟩)
    have HO2 : Hid (∀ w', Below w2.heap.size w2 w' → BCells w' w'.heap.size mA ob ∧ LC w' w'.heap.size mL ol ∧ BCells w' w'.heap.size kA pb ∧ LC w' w'.heap.size kL pl) := Lib.hid (fun w' hb' => by
      have hq := hq2.trans (hb'.mono hq2.size)
      exact ⟨((HO.out.1.keepB hq (Nat.le_refl _)).moreB hq.size), ((HO.out.2.1.keepB hq (Nat.le_refl _)).moreB hq.size), ((HO.out.2.2.1.keepB hq (Nat.le_refl _)).moreB hq.size), ((HO.out.2.2.2.keepB hq (Nat.le_refl _)).moreB hq.size)⟩)
    have HH2 := Lib.hid (HH.out.next hq2)
    have HHLT2 : Hid (0 < w2.heap.size) := Lib.hid (Nat.lt_of_lt_of_le HHLT.out hq2.size)
    obtain ⟨nn, hnn⟩ : ∃ nn, nn = 4 + bl % 27 := ⟨_, rfl⟩
    have HNN4 : Hid (4 ≤ nn ∧ nn ≤ 512) := Lib.hid (by omega)
    have HWK := Lib.hid (fun w' (hb' : Below w2.heap.size w2 w') => walked_any w' (HH2.out.next hb') (Nat.lt_of_lt_of_le HHLT2.out hb'.size) nn HNN4.out.1 HNN4.out.2 A cap l (by
      intro h0
      obtain ⟨b, off, e, hlt, hc⟩ := (HIN2.out.keep hb') h0
      exact ⟨b, off, e, Nat.lt_of_lt_of_le hlt hb'.size, fun k hk => by
        obtain ⟨m, h2, h3⟩ := hc k hk
        exact ⟨m, h2, h3.moreB hb'.size⟩⟩) (by rw [HNN.out.1]; exact HNN.out.2) (fun x hx => hfa x (List.mem_cons_of_mem _ (List.mem_cons_of_mem _ hx))))
    rw [HNN.out.1, hnn, show ((4 + bl % 27 : Nat) : Int) = 4 + ((bl : Int) % 27) by omega, ← hnn] at HWK
    have HGD : Hid (Wl.Good 0 nn (Wl.walkP nn l)) := Lib.hid (by
      obtain ⟨k1, k2, k3, k4⟩ := dk_new nn HNN4.out.2
      exact Wl.walk_good (Nat.zero_le _) _ _ ⟨by rw [k2]; exact Wl.inv_new _ HNN4.out.1 HNN4.out.2, k1, k3, k4⟩)
    obtain ⟨s, hs⟩ : ∃ s, s = Wl.walkP nn l := ⟨_, rfl⟩
    rw [← hs] at HWK HGD
    obtain ⟨d, lg⟩ := s
    clear hfa hq2 hnn hs HIN2 HIN1 HO HH HHLT
    have HWK1 := Lib.hid (HWK.out w2 (Below.refl _ _))
    go_wp2_with fail
    refine HWK1.out.mono ?_
    rintro _ w3 ⟨P, L, rfl, hsz3, hb3⟩
    have HSZ3 := Lib.hid hsz3
    have H3 := Lib.hid hb3
    have HWK2 := Lib.hid (HWK.out w3 hb3)
    clear hsz3 hb3 HWK HWK1
    go_wp2_with fail
    refine HWK2.out.mono ?_
    rintro _ w4 ⟨P', L', rfl, hsz4, hb4⟩
    have HSZ4 := Lib.hid hsz4
    have H4 := Lib.hid hb4
    obtain ⟨k9, hk9⟩ : ∃ k9, k9 = at9 % 31 := ⟨_, rfl⟩
    have hk31 : (at9 : Int) % 31 = (k9 : Int) := by omega
    have hk30 : k9 ≤ 30 := by omega
    have hmk := make_bools w4 (k9 + 1) (by omega)
    rw [show ((k9 + 1 : Nat) : Int) = (k9 : Int) + 1 by omega] at hmk
    have hkn0 : (0 : Int) ≤ (k9 : Int) := by omega
    have hkn1 : (k9 : Int) < (k9 : Int) + 1 := by omega
    clear hsz4 hb4 HWK2 hk9
    go_wp2_with fail
    obtain ⟨w5, hw5⟩ : ∃ w5, w5 = w4.alloc (.cells ((Array.replicate (k9 + 1) (.bool false)).setIfInBounds k9 (.bool true)) 4) := ⟨_, rfl⟩
    rw [← hw5]
    have hb5 : Below w4.heap.size w4 w5 := by rw [hw5]; exact (Below.refl _ _).alloc (Nat.le_refl _) _
    have hpl5 : ∀ j (hj : j < (planP k9).length), w5.cell? ⟨w4.heap.size, j, none⟩ = some (.bool (planP k9)[j]) := by rw [hw5]; exact plan_at w4 k9
    have hlt5 : w4.heap.size < w5.heap.size := by rw [hw5]; simp
    obtain ⟨F, hsy, hF, _⟩ := HSZ3.out
    obtain ⟨F', hsy', hF', _⟩ := HSZ4.out
    have B25 := H3.out.trans ((H4.out.trans (hb5.mono H4.out.size)).mono H3.out.size)
    have HRC := Lib.hid (records_s ((hsy.keep H4.out).keep hb5) (HH2.out.next B25) HGD.out.inv)
    have HB5 := Lib.hid hb5
    have H25 := Lib.hid B25
    have HPL5 := Lib.hid (And.intro hpl5 hlt5)
    have HSY := Lib.hid (And.intro hsy (And.intro hF (And.intro hsy' hF')))
    clear hw5 hb5 B25 hpl5 hlt5 hsy hF hsy' hF' hmk hkn0 hkn1
    refine HRC.out.mono ?_
    rintro _ w6 ⟨A5, c5, n5, cs5, rfl, hlr6, hb6⟩
    obtain ⟨X, hX⟩ : ∃ X : Nat → Prop, X = fun x => x < w2.heap.size ∨ (w4.heap.size ≤ x ∧ x < w6.heap.size) := ⟨_, rfl⟩
    have z5 := HB5.out.size
    have z4 := H4.out.size
    have z6 := hb6.size
    have z3 := H3.out.size
    have hb46 := HB5.out.trans (hb6.mono z5)
    have htz : TZ X w6 P L P' L' d lg d lg := by
      refine ⟨F, F', (HSY.out.1.keep H4.out).keep hb46, HSY.out.2.2.1.keep hb46, fun x hx hy => ?_, fun x hx => ?_, fun x hx => ?_, fun x hx => ?_⟩
      · have h1 := HSY.out.2.1 x hx
        have h2 := HSY.out.2.2.2 x hy
        omega
      · have h1 := HSY.out.2.1 x hx
        rw [hX]
        exact ⟨fun h => by omega, by omega⟩
      · have h1 := HSY.out.2.2.2 x hx
        rw [hX]
        exact ⟨fun h => by omega, by omega⟩
      · rw [hX] at hx
        omega
    have HXB : Hid (∀ x, x < w2.heap.size → X x) := Lib.hid (fun x hx => by rw [hX]; exact .inl hx)
    have HWAS : Hid (LP X w6 A5 (Wl.rds lg)) := Lib.hid ((hlr6.nrow (P := X) (fun b h1 h2 => by rw [hX]; exact .inr ⟨by omega, h2⟩)).lp (fun b h1 h2 => by rw [hX]; exact .inr ⟨by omega, h2⟩))
    have HN5 := Lib.hid hlr6.len.symm
    have hcap5 := hlr6.cap
    have H26 := Lib.hid (H25.out.trans (hb6.mono H25.out.size))
    have hpin : PlanIn w6 (some ⟨w4.heap.size, 0, none⟩) (k9 + 1) (planP k9) := ⟨(fun h => by cases h), (by rw [planP_len]; omega), fun _ => ⟨w4.heap.size, 0, rfl, by have := HPL5.out.2; omega, fun k hk => by rw [Nat.zero_add]; exact (hb6.cell (p := ⟨w4.heap.size, k, none⟩) HPL5.out.2).trans (HPL5.out.1 k hk)⟩⟩
    have HFA := Lib.hid (faults_t htz (some ⟨w4.heap.size, 0, none⟩) (k9 + 1) (k9 + 1) (planP k9) (planP_len k9) hpin)
    clear hX z5 z4 z6 z3 hb46 htz hlr6 hb6 hpin HRC HPL5 HSY
    go_wp2_with fail
    refine HFA.out.mono ?_
    rintro _ w7 ⟨rfl, htz7, hx7⟩
    have H27 := Lib.hid (H26.out.trans (hx7.below HXB.out))
    have HXH := HXB.out _ HHLT2.out
    obtain ⟨a1, a2, a3, a4⟩ := HO2.out w7 H27.out
    have HDO := Lib.hid (do_t (Y := P) htz7 (HH2.out.next H27.out) HXH HGD.out.st HGD.out.dn HGD.out.inv ox oi HOR.out.1 mA mL mG nb mcA nl mcL np mcG ob ol a1 a2 HNB.out.symm hcb HNL.out.symm hcl HFO.out.1 HLQ.out.1)
    have hrg7 := HBX1.out w7 (B2.out.trans (H27.out.mono B2.out.size))
    have HX7 := Lib.hid hx7
    clear htz7 hx7 a1 a2 a3 a4 HFA
    go_wp2_with ((with_reducible refine wpList_load_mid (op := ⟨some 97, _, _, _, _, _⟩) rfl 40 _ rfl w.heap.size 0 ?_ [.int .i64 ox, .int .i64 oi, .slice mA nb mcA, .slice mL nl mcL, .slice mG np mcG] _ hrg7 Tryd.underlying40 rfl (by kernel_rfl) ?_); exact rfl)
    refine HDO.out.mono ?_
    rintro _ w8 ⟨rfl, htz8, hx8⟩
    have HFL := Lib.hid (HGD.out.fails (Nat.zero_le _) (planP k9) ox ob ol)
    obtain ⟨R, hR⟩ : ∃ R, R = Wl.doP { d with plan := planP k9 } lg ox ob ol := ⟨_, rfl⟩
    rw [← hR] at HFL htz8 ⊢
    have HX8 := Lib.hid (HX7.out.trans hx8)
    have H28 := Lib.hid (H26.out.trans (HX8.out.below HXB.out))
    have HFA2 := Lib.hid (faults_t htz8 none 0 0 [] rfl ⟨fun _ => ⟨rfl, rfl⟩, by simp, fun h => absurd h (by simp)⟩)
    clear htz8 hx8 hR HDO hrg7 HX7 H27
    go_wp2_with fail
    refine HFA2.out.mono ?_
    rintro _ w9 ⟨rfl, htz9, hx9⟩
    have HX9 := Lib.hid (HX8.out.trans hx9)
    have H29 := Lib.hid (H26.out.trans (HX9.out.below HXB.out))
    obtain ⟨e0, he0⟩ : ∃ e0, e0 = R.1 := ⟨_, rfl⟩
    rw [← he0] at HFL ⊢
    have HTZ9 := Lib.hid htz9
    clear htz9 hx9 he0 HFA2 HX8 H28
    by_cases h0 : e0 = 0
    · subst h0
      go_wp2_with fail
      go_ret
      exact ⟨rfl, B0.out.trans (H29.out.mono B0.out.size)⟩
    have i0 : (e0 == 0) = false := by simpa using h0
    obtain ⟨hlg, hgd2⟩ := HFL.out h0
    have htz := HTZ9.out
    rw [hlg] at htz
    obtain ⟨d2, hd2⟩ : ∃ d2, d2 = ({ R.2.1 with plan := [] } : Dk.D) := ⟨_, rfl⟩
    rw [← hd2] at htz hgd2
    have HTZ := Lib.hid htz
    have HG2 := Lib.hid hgd2
    have HOP := Lib.hid (open_t htz (HH2.out.next H29.out) hgd2.st hgd2.dn hgd2.inv)
    clear htz hgd2 hd2 hlg h0 HTZ9 HFL
    go_wp2_with fail
    refine HOP.out.mono ?_
    rintro _ w10 ⟨L2, rfl, ⟨G, hsyk⟩, hb10⟩
    have H210 := Lib.hid (H29.out.trans (hb10.mono H29.out.size))
    have htz10 := HTZ.out.keep hb10
    obtain ⟨F2, hsyg, _⟩ := htz10.sy
    have HTZ10 := Lib.hid htz10
    have HSYK := Lib.hid hsyk
    have HLW10 := Lib.hid ((HWAS.out.keep (fun b hb _ => HX9.out.blk b hb) HX9.out.size).next hb10)
    have HR1 := Lib.hid (records_s hsyg (HH2.out.next H210.out) HG2.out.inv)
    clear htz10 hsyg hsyk hb10 HOP HTZ
    go_wp2_with fail
    refine HR1.out.mono ?_
    rintro _ w11 ⟨A11, c11, n11, cs11, rfl, hlr11, hb11⟩
    have HM11 := Lib.hid hlr11.len.symm
    have hcap11 := hlr11.cap
    have HLI1 := Lib.hid (refLists_any A11 A5 c11 c5 n11 n5 _ _ w11 HM11.out HN5.out hlr11.lc (HLW10.out.next hb11).lc (by omega))
    rw [decide_eq_true rfl] at HLI1
    have HB11 := Lib.hid hb11
    clear hlr11 hb11 HR1
    go_wp2_with fail
    refine HLI1.out.mono ?_
    rintro _ w12 ⟨rfl, hb12⟩
    have HB12 := Lib.hid (HB11.out.trans (hb12.mono HB11.out.size))
    have H212 := Lib.hid (H210.out.trans (HB12.out.mono H210.out.size))
    have HR2 := Lib.hid (records_s (HSYK.out.keep HB12.out) (HH2.out.next H212.out) HG2.out.inv)
    clear hb12 HLI1 HB11
    go_wp2_with fail
    refine HR2.out.mono ?_
    rintro _ w13 ⟨A13, c13, n13, cs13, rfl, hlr13, hb13⟩
    have HM13 := Lib.hid hlr13.len.symm
    have hcap13 := hlr13.cap
    have HB13 := Lib.hid (HB12.out.trans (hb13.mono HB12.out.size))
    have HLI2 := Lib.hid (refLists_any A13 A5 c13 c5 n13 n5 _ _ w13 HM13.out HN5.out hlr13.lc (HLW10.out.next HB13.out).lc (by omega))
    rw [decide_eq_true rfl] at HLI2
    clear hlr13 hb13 HR2 HB12 HSYK
    go_wp2_with fail
    refine HLI2.out.mono ?_
    rintro _ w14 ⟨rfl, hb14⟩
    have HB14 := Lib.hid (HB13.out.trans (hb14.mono HB13.out.size))
    have H214 := Lib.hid (H210.out.trans (HB14.out.mono H210.out.size))
    have htz14 := HTZ10.out.keep HB14.out
    obtain ⟨F4, hsy4, _⟩ := htz14.sy
    have HSTG := Lib.hid (staged_s hsy4)
    rw [HG2.out.st] at HSTG
    have HTZ14 := Lib.hid htz14
    clear hb14 HLI2 htz14 hsy4 HTZ10 HB13 H212
    go_wp2_with fail
    refine HSTG.out.mono ?_
    rintro _ w' ⟨rfl, rfl⟩
    clear HSTG
    obtain ⟨a1, a2, a3, a4⟩ := HO2.out w14 H214.out
    have HXH := HXB.out _ HHLT2.out
    have HDO2 := Lib.hid (do_t (Y := P) HTZ14.out (HH2.out.next H214.out) HXH HG2.out.st HG2.out.dn HG2.out.inv px pi9 HOR.out.2 kA kL kG yb kcA yl kcL yp kcG pb pl a3 a4 HYB.out.symm kcb HYL.out.symm kcl HFO.out.2 HLQ.out.2)
    have hrn14 := HBN1.out w14 (B2.out.trans (H214.out.mono B2.out.size))
    clear a1 a2 a3 a4 HTZ14
    go_wp2_with ((with_reducible refine wpList_load_mid (op := ⟨some 136, _, _, _, _, _⟩) rfl 40 _ rfl (w.heap.size + 1) 0 ?_ [.int .i64 px, .int .i64 pi9, .slice kA yb kcA, .slice kL yl kcL, .slice kG yp kcG] _ hrn14 Tryd.underlying40 rfl (by kernel_rfl) ?_); exact rfl)
    refine HDO2.out.mono ?_
    rintro _ w15 ⟨rfl, htz15, hx15⟩
    have H215 := Lib.hid (H214.out.trans (hx15.below HXB.out))
    have HTW := Lib.hid (HG2.out.twin HGD.out px pb pl)
    have HDG := Lib.hid (HG2.out.doP (Nat.zero_le _) px pb pl)
    obtain ⟨R2, hR2⟩ : ∃ R2, R2 = Wl.doP d2 lg px pb pl := ⟨_, rfl⟩
    rw [← hR2] at htz15 HTW HDG ⊢
    have HDG3 := Lib.hid (HGD.out.doP (Nat.zero_le _) px pb pl)
    obtain ⟨R3, hR3⟩ : ∃ R3, R3 = Wl.doP d lg px pb pl := ⟨_, rfl⟩
    rw [← hR3] at HTW HDG3
    have HTZ15 := Lib.hid htz15
    have HD3 := Lib.hid (fun (Y : Nat) w' (hb' : Below w15.heap.size w15 w') => by
      obtain ⟨a1, a2, a3, a4⟩ := HO2.out w' (H215.out.trans (hb'.mono H215.out.size))
      exact do_t (Y := Y) (HTZ15.out.keep hb').swap (HH2.out.next (H215.out.trans (hb'.mono H215.out.size))) HXH HGD.out.st HGD.out.dn HGD.out.inv px pi9 HOR.out.2 kA kL kG yb kcA yl kcL yp kcG pb pl a3 a4 HYB.out.symm kcb HYL.out.symm kcl HFO.out.2 HLQ.out.2)
    rw [← hR3] at HD3
    obtain ⟨a0, ha0⟩ : ∃ a0, a0 = R2.1 := ⟨_, rfl⟩
    rw [← ha0] at HTW ⊢
    rw [← HTW.out.1] at HD3
    have HBN15 : Hid (∀ w', Below w15.heap.size w15 w' → w'.rangeAt (w.heap.size + 1) 0 [.int .i64 px, .int .i64 pi9, .slice kA yb kcA, .slice kL yl kcL, .slice kG yp kcG]) := Lib.hid (fun w' hb' => HBN1.out w' (B2.out.trans ((H215.out.trans (hb'.mono H215.out.size)).mono B2.out.size)))
    have hr15 := HBN15.out w15 (Below.refl _ _)
    have s0 := hr15 0 _ rfl
    have s1 := hr15 1 _ rfl
    have s2 := hr15 2 _ rfl
    have s3 := hr15 3 _ rfl
    have s4 := hr15 4 _ rfl
    simp only [Nat.zero_add] at s0 s1 s2 s3 s4
    clear htz15 hx15 hR2 HDO2 hrn14 hr15 hR3 ha0
    go_wp2_with fail
    go_region_law (first
      | (go_simp; go_at_call 14; (first | with_reducible refine (new_any w15 1).mono ?_ | with_reducible refine (new_any w15.drew 1).mono ?_); intro e16 w16 hm16; obtain ⟨P3, hP3, _, hb16⟩ := hm16.sd; subst hP3; have hb16' : Below w15.heap.size w15 w16 := ⟨hb16.os, hb16.tape, hb16.output, hb16.size, hb16.block⟩; have hr16 := HBN15.out w16 hb16'; have t0 := hr16 0 _ rfl; have t1 := hr16 1 _ rfl; have t2 := hr16 2 _ rfl; have t3 := hr16 3 _ rfl; have t4 := hr16 4 _ rfl; simp only [Nat.zero_add] at t0 t1 t2 t3 t4)
      | (refine step_load_mid rfl 40 (.tmp 9) rfl (w.heap.size + 1) 0 (by rfl) [.int .i64 px, .int .i64 pi9, .slice kA yb kcA, .slice kL yl kcL, .slice kG yp kcG] _ (HBN15.out _ (by first | exact Below.refl _ _ | exact (Below.refl _ _).drew | exact hb16' | exact hb16'.drew)) Tryd.underlying40 rfl (by kernel_rfl) ?_)
      | (go_simp; go_at_call 18; refine (HD3.out _ _ (by first | exact hb16' | exact hb16'.drew)).mono ?_; rintro _ w17 ⟨rfl, htz17, hx17⟩; have H217 : Below w2.heap.size w2 w17 := (H215.out.trans (hb16'.mono H215.out.size)).trans ⟨hx17.os, hx17.tape, hx17.output, hx17.size, fun k hk => hx17.blk k (HXB.out k hk)⟩))
    all_goals
      obtain ⟨F6, hs6, _⟩ := htz17.swap.sy
      obtain ⟨F7, hs7, _⟩ := htz17.sy
      rw [← HTW.out.2] at hs7
      have HSA := Lib.hid hs6
      have HSB := Lib.hid hs7
      have HD3' := HDG3.out
      have HI3 : Hid (Wl.Inv 0 nn R3.2.1.kept R2.2.2) := Lib.hid (by rw [HTW.out.2]; exact HDG3.out.inv)
      have HQ1 := Lib.hid (records_s hs6 (HH2.out.next H217) HDG.out.inv)
      have H17 := Lib.hid H217
      clear htz17 hx17 hs6 hs7 HD3 HD3' H217 hb16 hb16' hm16 s0 s1 s2 s3 s4 t0 t1 t2 t3 t4 hr16
      go_wp2_with fail
      refine HQ1.out.mono ?_
      rintro _ w18 ⟨A18, c18, n18, cs18, rfl, hlr18, hb18⟩
      have HLR18 := Lib.hid hlr18
      have HB18 := Lib.hid hb18
      have H18 := Lib.hid (H17.out.trans (hb18.mono H17.out.size))
      have hcap18 := hlr18.cap
      have HQ2 := Lib.hid (records_s (HSB.out.keep hb18) (HH2.out.next H18.out) HI3.out)
      clear hlr18 hb18 HQ1
      go_wp2_with fail
      refine HQ2.out.mono ?_
      rintro _ w19 ⟨A19, c19, n19, cs19, rfl, hlr19, hb19⟩
      have HLI := Lib.hid (refLists_any A18 A19 c18 c19 n18 n19 _ _ w19 HLR18.out.len.symm hlr19.len.symm (HLR18.out.lc.next hb19) hlr19.lc (by omega))
      rw [decide_eq_true rfl] at HLI
      have HB19 := Lib.hid (HB18.out.trans (hb19.mono HB18.out.size))
      have H19 := Lib.hid (H18.out.trans (hb19.mono H18.out.size))
      clear hlr19 hb19 HQ2 HLR18
      go_wp2_with fail
      refine HLI.out.mono ?_
      rintro _ w20 ⟨rfl, hb20⟩
      have HB20 := Lib.hid (HB19.out.trans (hb20.mono HB19.out.size))
      have H20 := Lib.hid (H19.out.trans (hb20.mono H19.out.size))
      have HU1 := Lib.hid (used_sy (HSA.out.keep HB20.out))
      have HU2 := Lib.hid (used_sy (HSB.out.keep HB20.out))
      have HG1 := Lib.hid (gen_sy (HSA.out.keep HB20.out))
      have HG3 := Lib.hid (gen_sy (HSB.out.keep HB20.out))
      obtain ⟨uu, huu⟩ : ∃ uu, uu = R2.2.2.fr.length := ⟨_, rfl⟩
      obtain ⟨gg, hgg⟩ : ∃ gg, gg = R2.2.2.gen := ⟨_, rfl⟩
      rw [← huu] at HU1 HU2
      rw [← hgg] at HG1 HG3
      clear hb20 HLI HSA HSB huu hgg
      go_wp2_with fail
      refine HU1.out.mono ?_
      rintro _ w' ⟨rfl, rfl⟩
      go_wp2_with fail
      refine HU2.out.mono ?_
      rintro _ w' ⟨rfl, rfl⟩
      go_wp2_with fail
      refine HG1.out.mono ?_
      rintro _ w' ⟨rfl, rfl⟩
      go_wp2_with fail
      refine HG3.out.mono ?_
      rintro _ w' ⟨rfl, rfl⟩
      go_wp2_with fail
      go_ret
      exact ⟨rfl, B0.out.trans (H20.out.mono B0.out.size)⟩
end Go.Proofs.YtkmljbbnpjlehaaDoor
namespace Go.Proofs.YtkmljbbnpjlehaaDoor
set_option maxRecDepth 8000
open Go.RowKit

theorem u8_natF {x : Int} (hx : (Lit.int .u8 x).wf = true) : ∃ b : Nat, x = (b : Int) ∧ b ≤ 255 := by
  have e1 : IntKind.u8.min = 0 := by decide
  have e2 : IntKind.u8.max = 255 := by decide
  simp [Lit.wf] at hx
  exact ⟨x.toNat, by omega, by omega⟩
theorem walFails_at (x : Int) (hx : (Lit.int .u8 x).wf = true) (A : Option Addr) (cap : Nat) (l : List Wl.O) (o : Wl.O) (m : Wo) (y : Int) (hy : (Lit.int .u8 y).wf = true) (p : Wl.O) (k : Wo) (w : World) (hH : Hs w)
    (hl : WosIn w w.heap.size A l) (hll : l.length ≤ 1048576) (ho : WoIn w w.heap.size o m) (hp : WoIn w w.heap.size p k) :
    Calls Tryd.prog 6 #[.int .u8 x, .slice A l.length cap, .agg #[.int .i64 o.x, .int .i64 o.i, .slice m.A o.b.length m.cA, .slice m.L o.l.length m.cL, .slice m.G o.p.length m.cG], .int .u8 y, .agg #[.int .i64 p.x, .int .i64 p.i, .slice k.A p.b.length k.cA, .slice k.L p.l.length k.cL, .slice k.G p.p.length k.cG]] w fun e w' => e = .returned (.bool true) ∧ Below w.heap.size w w' := by
  obtain ⟨b, rfl, hb⟩ := u8_natF hx
  obtain ⟨s, rfl, hs⟩ := u8_natF hy
  have hz : 0 < w.heap.size := World.block_lt_of_cell? w _ (hH.cell (k := 0) (by omega))
  exact walFails_any b s A cap _ l o.x o.i o.b o.l o.p m.A m.L m.G m.cA m.cL m.cG p.x p.i p.b p.l p.p k.A k.L k.G k.cA k.cL k.cG w hH hz hb hs rfl hl hll ho hp
end Go.Proofs.YtkmljbbnpjlehaaDoor
