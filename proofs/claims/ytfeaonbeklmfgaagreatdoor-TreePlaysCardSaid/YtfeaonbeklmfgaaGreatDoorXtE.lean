/- The document's Drop of trees. Condition: each parent lies ahead of its kids. -/
import Derived.Test.YtfeaonbeklmfgaaGreatDoorXtD
namespace Go.Proofs.YtfeaonbeklmfgaaGreatDoor
set_option maxRecDepth 8000
open Go.RowKit

def DropX (G : Nat → Prop) (w : World) (T room : Nat) (l' : List Rk.R) (ls : List (List UInt8)) (e : Ending) (w' : World) : Prop :=
  ∃ v, e = .returned v ∧ SRow w.heap.size w' v ls ∧ XAt (OrT G w.heap.size w'.heap.size) w' T room l' ∧ OutT G w w'
def dropK (gone : List (List UInt8)) (l : List Rk.R) (k : Nat) : List Rk.R := (l.take k).filter fun r => !decide (r.name ∈ gone)
theorem dropK_len {gone : List (List UInt8)} {l : List Rk.R} {k : Nat} : (dropK gone l k).length ≤ k :=
  Nat.le_trans (List.length_filter_le _ _) (by rw [List.length_take]; exact Nat.min_le_left _ _)
theorem dropK_hit {gone : List (List UInt8)} {l : List Rk.R} {k : Nat} (hk : k < l.length) (h : l[k].name ∉ gone) : dropK gone l (k + 1) = dropK gone l k ++ [l[k]] := by
  unfold dropK
  rw [List.take_succ_eq_append_getElem hk, List.filter_append]
  simp [h]
theorem dropK_miss {gone : List (List UInt8)} {l : List Rk.R} {k : Nat} (hk : k < l.length) (h : l[k].name ∈ gone) : dropK gone l (k + 1) = dropK gone l k := by
  unfold dropK
  rw [List.take_succ_eq_append_getElem hk, List.filter_append]
  simp [h]
set_option maxHeartbeats 1600000 in
theorem drop_anyX {G : Nat → Prop} {w : World} {T room m : Nat} {l : List Rk.R} (n : List UInt8) (hg : Tr.Good m l) (h : XAt G w T room l) (hl : l.length ≤ 1000000) :
    Calls Tryz.prog 13 #[.pointer (some ⟨T, 0, none⟩), .string (S n)] w (DropX G w T room (Tr.drop l n) (Tr.below l n)) := by
  have HBE := Lib.hid (below_anyX n hg h hl)
  have hbl := below_len n hg
  obtain ⟨gone, hgn⟩ : ∃ gone, gone = Tr.below l n := ⟨_, rfl⟩
  have HD : Hid (Tr.drop l n = dropK gone l l.length) := Lib.hid (by rw [hgn]; unfold dropK; rw [List.take_of_length_le (Nat.le_refl _)]; rfl)
  rw [← hgn] at HBE hbl ⊢
  have HT := Lib.hid h
  have HL := Lib.hid (And.intro hbl hl)
  obtain ⟨-, A, cap, htc, hcc⟩ := h.cells
  have HTC := Lib.hid (fun (w' : World) (hb : Below w.heap.size w w') => ((hb.cell (p := ⟨T, 1, none⟩) h.lt).trans htc : w'.cell? ⟨T, 1, none⟩ = some (.slice A l.length cap)))
  have HC := Lib.hid hcc
  clear hgn hg h hbl hl htc hcc
  go_enter Tryz.func13, Tryz.ntmps13
  go_wp2_with fail
  refine HBE.out.mono ?_
  rintro e w1 ⟨gv, rfl, hgr, hb1⟩
  obtain ⟨gA, gc, rfl, hgc⟩ := readsS hgr
  have HGR := Lib.hid hgr
  have HIN := Lib.hid (fun (s : List UInt8) (wr : World) (hb : Below w1.heap.size w1 wr) => in_any gA gc gone s wr (fun hn => by
    obtain ⟨b, off, e, hlt, hc⟩ := hgc hn
    exact ⟨b, off, e, Nat.lt_of_lt_of_le hlt hb.size, fun j hj => (hb.cell (p := ⟨b, off + j, none⟩) hlt).trans (hc j hj)⟩) (by have := HL.out; omega))
  have HB1 := Lib.hid hb1
  clear hgr hgc hb1 HBE
  go_wp2_with fail
  go_loopw [6, 7] (fun vs iv wr => ∃ k : Nat, k ≤ l.length ∧ iv = .int .i64 k ∧ RRow w1.heap.size wr vs (dropK gone l k) ∧ Below w1.heap.size w1 wr) (fun _ iv _ => l.length - (intOf iv).toNat)
  case atStart => exact ⟨0, Nat.zero_le _, rfl, World.ownsRow_nil _ _ _ _, Below.refl _ _⟩
  case round =>
    obtain ⟨k, hk, rfl, hrow, hb⟩ := hrel
    have hbs := hb.size
    have hbw := HB1.out.trans (hb.mono HB1.out.size)
    have htc := HTC.out wr hbw
    by_cases hlt : k < l.length
    · obtain ⟨b, off, rfl, hbb, h6⟩ := HC.out.at10 k hlt
      have hat := h6.keep hbw hbb
      have hkl := dropK_len (gone := gone) (l := l) (k := k)
      have HHIT := Lib.hid (dropK_hit (gone := gone) hlt)
      have HMISS := Lib.hid (dropK_miss (gone := gone) hlt)
      have HLT := Lib.hid hlt
      have HLL := Lib.hid HL.out.2
      clear h6
      generalize l[k] = x at hat HHIT HMISS
      obtain ⟨d0, d1, d2, d3, d4, d5, d6, d7, d8, d9⟩ := hat
      have n0 : (0 : Int) ≤ (k : Int) := by omega
      have n1 : (k : Int) < (l.length : Int) := by omega
      have HX := Lib.hid (HIN.out x.name wr hb)
      have HBW := Lib.hid hbw
      clear hlt hbw
      by_cases hp : x.name ∈ gone
      · have HN := Lib.hid (HMISS.out hp)
        rw [decide_eq_true hp] at HX
        clear hp HHIT HMISS
        go_wp2_with fail
        refine HX.out.mono ?_
        rintro e w2 ⟨rfl, rfl⟩
        have hll := HLL.out
        have hln := HLT.out
        go_wp2_with fail
        go_roundw
        case rel => exact ⟨k + 1, by have := HLT.out; omega, by go_num, by rw [HN.out]; exact hrow, hb⟩
        case measure => have := HLT.out; simp [intOf]; omega
      · have HN := Lib.hid (HHIT.out hp)
        rw [decide_eq_false hp] at HX
        clear hp HHIT HMISS
        go_wp2_with fail
        refine HX.out.mono ?_
        rintro e w2 ⟨rfl, rfl⟩
        have hll := HLL.out
        have hln := HLT.out
        go_wp2_with (at_builtin; refine wpList_rec rfl (.tmp 33) (.tmp 41) w1.heap.size wr.heap.size _ (dropK gone l k) x rfl rfl rfl (World.ownsRow.alloc hrow _) (heap_alloc_new wr _) (by omega) (by rw [World.size_alloc]; omega) ?_; intro g cg w6 hown6 _ hb6)
        go_roundw
        case rel => exact ⟨k + 1, by have := HLT.out; omega, by go_num, by rw [HN.out]; exact hown6, (hb.alloc hbs _).trans hb6⟩
        case measure => have := HLT.out; simp [intOf]; omega
    · have hkn : k = l.length := by omega
      subst hkn
      obtain ⟨A2, c2, rfl, -⟩ := hrow.form
      obtain ⟨u, t1, t2, t3, t4⟩ := HT.out
      obtain ⟨s1, s2, s3⟩ := add_finX t1 t3 (Below.refl _ _) hbw HB1.out.size hrow
      have HF := Lib.hid (show DropX G w T room (Tr.drop l n) gone (.returned (.slice gA gone.length gc)) (wr.setCell ⟨T, 1, none⟩ (.slice A2 (dropK gone l l.length).length c2)) from by
        refine ⟨_, rfl, ?_, by rw [HD.out]; exact s3.1, s3.2⟩
        have hTw := HT.out.lt
        have hgr := own_below HGR.out hb
        refine own_kept hgr (fun k hk => ?_)
        have hk1 := World.ownsRow.lt HGR.out k hk
        exact Below.heap_setCell wr ⟨T, 1, none⟩ _ k (by show k ≠ T; omega))
      generalize (dropK gone l l.length).length = n2 at s1 s2 HF ⊢
      clear t1 t2 t3 t4 s3 hrow hbw hlt
      go_wp2_with fail
      go_ret
      exact HF.out
end Go.Proofs.YtfeaonbeklmfgaaGreatDoor
