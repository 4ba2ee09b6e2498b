/- Whether attributes can be: areAttrs of package xml; for at most 2^40 of them, whose names and values have at most 2^40 bytes. -/
import Derived.Test.YtpleaopefngafaaDoorXmY
import Derived.Test.YtpleaopefngafaaDoorXmS
import Derived.Sort.OwnSorted
import Derived.Deep.AppendLies
namespace Go.Proofs.YtpleaopefngafaaDoor
set_option maxRecDepth 8000
open Go.RowKit Go.Sort

theorem Tryd.infoStr : (Tryd.prog.info? 9).map (fun i => (i.zero, i.size, i.bytes)) = some (some (.string ⟨#[]⟩), 1, 16) := by kernel_rfl
def namesV (l : List Pct.PairL) : List Value := l.map fun p => .string (S p.1)
def attrsOk (l : List Pct.PairL) : Bool := l.all Xm.attrB && Xm.distinct (l.map (·.1))
def AttrsRel (w : World) (l : List Pct.PairL) (v i : Value) (wr : World) : Prop :=
  ∃ k : Nat, k ≤ l.length ∧ i = .int .i64 (k : Int) ∧ (l.take k).all Xm.attrB = true ∧ wr.ownsRow w.heap.size 9 1 v k (namesV (l.take k)) ∧ Below w.heap.size w wr
theorem namesV_enc (l : List Pct.PairL) : namesV l = (l.map (·.1)).map encStr := by unfold namesV; rw [List.map_map]; rfl
theorem all_take_false {l : List Pct.PairL} {k : Nat} (hk : k < l.length) (h : Xm.attrB l[k] = false) : attrsOk l = false := by
  have : l.all Xm.attrB = false := by
    rw [List.all_eq_false]
    exact ⟨l[k], List.getElem_mem hk, by rw [h]; decide⟩
  unfold attrsOk
  rw [this]
  rfl

set_option maxHeartbeats 2000000 in
theorem areAttrs_any (A : Option Addr) (c n : Nat) (l : List Pct.PairL) (w : World) (hn : l.length = n) (hl : PCells w w.heap.size A l) (hm : n ≤ 1099511627776) (hq : ∀ p ∈ l, p.1.length ≤ 1099511627776 ∧ p.2.length ≤ 1099511627776) :
    Calls Tryd.prog 30 #[.slice A n c] w fun e w' => e = .returned (.bool (attrsOk l)) ∧ Below w.heap.size w w' := by
  obtain ⟨i0, hi0, hz0, hz1, hz2⟩ := info_parts Tryd.infoStr
  have hby : i0.bytes * n ≤ 281474976710656 := by rw [hz2]; omega
  have h63 : n ≤ maxLen := by unfold maxLen; omega
  have HN := Lib.hid hn
  clear hn
  go_enter Tryd.func30, Tryd.ntmps30
  go_wp2_with (at_make; refine wpList_make_own _ rfl _ _ 68 rfl w.heap.size 9 i0 (.string ⟨#[]⟩) 1 Tryd.underlying68 hi0 hz0 hz1 _ _ _ n rfl rfl rfl hby h63 (Nat.le_refl _) ?_; intro w1 hown1 hgrow1)
  have hb1 : Below w.heap.size w w1 := (Below.refl _ _).grown hgrow1 (Nat.le_refl _) (by simp)
  clear hgrow1
  go_loopw [3, 11] (fun v i wr => AttrsRel w l v i wr) (fun _ i _ => n - (intOf i).toNat)
  case atStart => exact ⟨0, Nat.zero_le _, rfl, rfl, hown1, hb1⟩
  case round =>
    obtain ⟨k, hk, rfl, hall, hrow, hb⟩ := hrel
    clear hb1 hown1
    have HALL := Lib.hid hall
    have hbs := hb.size
    have hnl := HN.out
    have h63' : k + 1 ≤ maxLen := by unfold maxLen; omega
    clear hall
    by_cases hlt : k < n
    · have hkl : k < l.length := by omega
      obtain ⟨ab, off, rfl, hbb, hcl⟩ := hl (by omega)
      obtain ⟨c0', c1'⟩ := hcl k hkl
      have hqk := hq l[k] (List.getElem_mem hkl)
      have HBAD : Hid (Xm.attrB l[k] = false → attrsOk l = false) := Lib.hid (all_take_false hkl)
      have HSN : Hid (Xm.attrB l[k] = true → (l.take (k + 1)).all Xm.attrB = true) := Lib.hid (fun h => by
        rw [List.take_succ_eq_append_getElem hkl, List.all_append, HALL.out, List.all_cons, h]; rfl)
      have HNV : Hid (namesV (l.take (k + 1)) = namesV (l.take k) ++ [.string (S l[k].1)]) := Lib.hid (by
        rw [List.take_succ_eq_append_getElem hkl]; unfold namesV; rw [List.map_append]; rfl)
      obtain ⟨p, hp⟩ : ∃ p, p = l[k] := ⟨_, rfl⟩
      rw [← hp] at c0' c1' hqk HBAD HSN HNV
      obtain ⟨nm, vl⟩ := p
      have c0 : wr.cell? ⟨ab, off + k * 2, none⟩ = some (.string (S nm)) := (hb.cell (p := ⟨ab, off + k * 2, none⟩) hbb).trans c0'
      have c1 : wr.cell? ⟨ab, off + k * 2 + 1, none⟩ = some (.string (S vl)) := (hb.cell (p := ⟨ab, off + k * 2 + 1, none⟩) hbb).trans c1'
      have j0 : (0 : Int) ≤ (k : Int) := by omega
      have j1 : (k : Int) < (n : Int) := by omega
      have hq1 : nm.length ≤ 9223372036854775807 := by have : nm.length ≤ _ := hqk.1; omega
      have hq2 : vl.length ≤ 9223372036854775807 := by have : vl.length ≤ _ := hqk.2; omega
      clear c0' c1' hcl hp hnl hqk
      obtain ⟨wa, hwa⟩ : ∃ wa, wa = wr.alloc (.cells #[.string (S nm), .string (S vl)] 38) := ⟨_, rfl⟩
      have hba : Below w.heap.size w wa := by rw [hwa]; exact hb.alloc hb.size _
      obtain ⟨g, hg⟩ : ∃ g, g = wr.heap.size := ⟨_, rfl⟩
      have ga0 : wa.cell? ⟨g, 0, none⟩ = some (.string (S nm)) := by rw [hwa, hg]; exact World.cell?_alloc_new wr _ _ 0
      have ga1 : wa.cell? ⟨g, 1, none⟩ = some (.string (S vl)) := by rw [hwa, hg]; exact World.cell?_alloc_new wr _ _ 1
      have hga : g < wa.heap.size := by rw [hwa, hg]; simp
      have hrowa : wa.ownsRow w.heap.size 9 1 u3 k (namesV (l.take k)) := by rw [hwa]; exact hrow.alloc _
      have HWA := Lib.hid hwa
      have HG := Lib.hid hg
      cases h1 : Xm.nameB nm with
      | false =>
        have HF : Hid (attrsOk l = false) := Lib.hid (HBAD.out (by unfold Xm.attrB; rw [h1]; rfl))
        have hC := isName_any nm wa hq1
        rw [h1] at hC
        have HC := Lib.hid hC
        clear hC h1 hwa hg hrow hrowa
        go_wp2_with fail
        rw [← HWA.out]
        refine HC.out.mono ?_
        rintro e w3 ⟨rfl, hb3⟩
        go_wp2_with fail
        go_ret
        exact ⟨ret_bool HF.out.symm, hba.trans (hb3.mono hba.size)⟩
      | true =>
        have hC := isName_any nm wa hq1
        rw [h1] at hC
        have HC := Lib.hid hC
        cases h2 : Xm.shownB vl with
        | false =>
          have HF : Hid (attrsOk l = false) := Lib.hid (HBAD.out (by unfold Xm.attrB; rw [h2, Bool.and_false]))
          have hD := fun w' => isShown_any vl w' hq2
          rw [h2] at hD
          have HD := Lib.hid hD
          clear hC hD h1 h2 hwa hg hrow hrowa
          go_wp2_with fail
          rw [← HWA.out, ← HG.out]
          refine HC.out.mono ?_
          rintro e w3 ⟨rfl, hb3⟩
          have gb1 : w3.cell? ⟨g, 1, none⟩ = some (.string (S vl)) := (hb3.cell (p := ⟨g, 1, none⟩) hga).trans ga1
          go_wp2_with fail
          refine (HD.out _).mono ?_
          rintro e w' ⟨rfl, rfl⟩
          go_wp2_with fail
          go_ret
          exact ⟨ret_bool HF.out.symm, hba.trans (hb3.mono hba.size)⟩
        | true =>
          have HT : Hid ((l.take (k + 1)).all Xm.attrB = true) := Lib.hid (HSN.out (by unfold Xm.attrB; rw [h1, h2]; rfl))
          have hD := fun w' => isShown_any vl w' hq2
          rw [h2] at hD
          have HD := Lib.hid hD
          clear hC hD h1 h2 hwa hg hrow
          go_wp2_with fail
          rw [← HWA.out, ← HG.out]
          refine HC.out.mono ?_
          rintro e w3 ⟨rfl, hb3⟩
          have gb0 : w3.cell? ⟨g, 0, none⟩ = some (.string (S nm)) := (hb3.cell (p := ⟨g, 0, none⟩) hga).trans ga0
          have gb1 : w3.cell? ⟨g, 1, none⟩ = some (.string (S vl)) := (hb3.cell (p := ⟨g, 1, none⟩) hga).trans ga1
          have hb4 : Below w.heap.size w w3 := hba.trans (hb3.mono hba.size)
          have hown3 : w3.ownsRow w.heap.size 9 1 u3 k (namesV (l.take k)) := own_below hrowa hb3
          have hbs3 := hb4.size
          go_wp2_with fail
          refine (HD.out _).mono ?_
          rintro e w' ⟨rfl, rfl⟩
          clear hrowa hb3 ga0 ga1
          go_wp2_with (at_builtin; refine wpList_append_lies _ rfl (.tmp 25) (.tmp 28) _ rfl w.heap.size 9 i0 _ 1 16 Tryd.underlying68 hi0 hz0 hz1 hz2 rfl (by omega) _ k (namesV (l.take k)) rfl (hown3.alloc _) ⟨w3.heap.size, 0, none⟩ 1 1 [.string (S nm)] rfl rfl (World.news_of_block (cs := #[.string (S nm)]) (t := 9) (fr := (0, 0)) (heap_alloc_new w3 _)) (by simp [Value.oneCell']) (by omega) h63' (by omega) (by simp; omega) (w3.heap.size + 1) (by simp) ?_; intro gg cp w6 hown6 hgrow6 hat6 hlt6)
          go_roundw
          case rel =>
            refine ⟨k + 1, by have := HN.out; omega, by go_num, HT.out, ?_, (hb4.alloc hbs3 _).grown hgrow6 (by simp; omega) (fun q hq => (World.ownsRow.lt hown3 q hq).1)⟩
            rw [HNV.out]
            exact hown6
          case measure => simp [intOf]; omega
    · obtain rfl : k = n := by omega
      rw [List.take_of_length_le (by omega)] at hrow
      have hall : l.all Xm.attrB = true := by
        have := HALL.out
        rwa [List.take_of_length_le (by omega)] at this
      have hok : attrsOk l = Xm.distinct (l.map (·.1)) := by unfold attrsOk; rw [hall, Bool.true_and]
      obtain ⟨ns, hns⟩ : ∃ ns, ns = l.map (·.1) := ⟨_, rfl⟩
      have hnsl : ns.length = k := by rw [hns, List.length_map]; exact hnl
      rw [namesV_enc, ← hns] at hrow
      rw [← hns] at hok
      have HOK := Lib.hid hok
      have HNS := Lib.hid hnsl
      clear hall hok hns hnl
      by_cases h0 : k = 0
      · have hv : ∃ p cap, u3 = .slice p 0 cap := by
          rcases hrow.2 with ⟨h1, _⟩ | ⟨g, cap, cur, h1, _⟩
          · exact ⟨none, 0, h1⟩
          · exact ⟨_, cap, by rw [h1, h0]⟩
        obtain ⟨p, cap, rfl⟩ := hv
        have HD : Hid (attrsOk l = true) := Lib.hid (by
          have := HNS.out
          rw [HOK.out, List.length_eq_zero_iff.1 (by omega : ns.length = 0)]
          rfl)
        subst h0
        clear hrow hnsl
        go_wp2_with (first
          | (go_at_call 43; refine (Tryd.slices_Sort_string_none p cap _).mono ?_; rintro e w' ⟨rfl, rfl⟩)
          | (go_at_call 44; refine (Tryd.slices_Compact_string_empty p cap _).mono ?_; rintro e w' ⟨rfl, rfl⟩))
        go_ret
        exact ⟨ret_bool (by rw [HD.out]), hb⟩
      · rcases hrow.2 with ⟨_, h1⟩ | ⟨g, cap, cur, rfl, hgb, hg, hnc, hcm, hsz, ht⟩
        · exact absurd h1 h0
        · have hgl : g < wr.heap.size := (Array.getElem?_eq_some_iff.1 hg).1
          have hH := holds_of_block (ss := ns) hg (by rw [hnsl]; simpa using ht)
          have hS := Tryd.slices_Sort_string g 0 cap ns wr hH hgl (by omega)
          rw [hnsl] at hS
          have HS := Lib.hid hS
          obtain ⟨so, hso⟩ : ∃ so, so = ns.mergeSort (fun x y => decide (x ≤ y)) := ⟨_, rfl⟩
          have hsl : so.length = k := by rw [hso, List.length_mergeSort]; exact hnsl
          have HSO := Lib.hid hso
          have HB := Lib.hid hb
          have HCUR := Lib.hid (And.intro hg hsz)
          clear hS hH hrow hso hb hsz ht hg
          go_wp2_with fail
          refine HS.out.mono ?_
          rintro e w2 ⟨rfl, q, os, hw2⟩
          rw [← HSO.out] at hw2
          have hrow2 := ownsRow_sorted (base := w.heap.size) (n := q) (os := os) (ss := ns) (ts := so) (cap := cap) (by rw [hsl, hnsl]) hgb HCUR.out.1 (by omega) hcm HCUR.out.2
          have hb2 : Below w.heap.size w w2 := by
            rw [hw2]
            exact HB.out.grown (grownBy_sorted _) HB.out.size (fun j hj => by cases hj; exact hgb)
          rw [← hw2] at hrow2
          clear hw2 HS
          rcases hrow2.2 with ⟨h1, _⟩ | ⟨g2, cap2, cur2, h1, hgb2, hg2, _, _, _, ht2⟩
          · cases h1
          · injection h1 with e1 _ e3
            injection e1 with e1
            injection e1 with e1 _ _
            subst e1 e3
            have hH2 := holds_of_block (ss := so) hg2 (by rw [hsl, ← hnsl]; simpa using ht2)
            have hC := Tryd.slices_Compact_string g 0 cap so w2 hH2 (by omega) (by omega)
            rw [hsl] at hC
            obtain ⟨c2, hc2⟩ : ∃ c2, c2 = (Lib.compact so).length := ⟨_, rfl⟩
            rw [← hc2] at hC
            have HC := Lib.hid hC
            have heq : ((c2 : Int) == (k : Int)) = attrsOk l := by
              rw [HOK.out, Bool.eq_iff_iff, ← Xm.sorted_compact ns, ← HSO.out, ← hc2, hnsl]
              simp
              omega
            obtain ⟨r, hr⟩ : ∃ r, r = attrsOk l := ⟨_, rfl⟩
            rw [← hr] at heq
            have HR := Lib.hid hr
            clear hr hC hc2 hH2 hg2 ht2 hrow2 hgb2
            go_wp2_with fail
            refine HC.out.mono ?_
            rintro e w3 ⟨rfl, q3, hw3⟩
            have hb3 : Below w.heap.size w w3 := by
              have hgr := grownBy_sorted (w := w2) (g := g) (n := q3) (os := #[]) (Lib.compact so ++ List.replicate (k - c2) []).toArray
              rw [grow_empty] at hgr
              rw [hw3]
              exact hb2.grown hgr hb2.size (fun j hj => by cases hj; exact hgb)
            clear hw3
            go_wp2_with fail
            go_ret
            exact ⟨ret_bool HR.out, hb3⟩
end Go.Proofs.YtpleaopefngafaaDoor
