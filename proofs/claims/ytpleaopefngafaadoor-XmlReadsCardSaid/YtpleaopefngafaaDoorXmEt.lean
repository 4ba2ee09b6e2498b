/- The document's Read of package xml, for texts of at most a million bytes. -/
import Derived.Test.YtpleaopefngafaaDoorXmEl
import Derived.Test.YtpleaopefngafaaDoorXmOw
import Derived.Test.YtpleaopefngafaaDoorXmRd
namespace Go.Proofs.YtpleaopefngafaaDoor
set_option maxRecDepth 8000
open Go.RowKit

set_option maxHeartbeats 4000000 in
theorem refRead_any (l : List UInt8) (hl : l.length ≤ 1000000) (w : World) :
    Calls Tryd.prog 8 #[.string (S l)] w fun e w' => ReadPost (Xm.read l) e w' ∧ Below w.heap.size w w' := by
  obtain ⟨w0, hw0⟩ : ∃ w0, w0 = w.alloc (.cells #[.string ⟨#[]⟩, .slice none 0 0, .string ⟨#[]⟩, .slice none 0 0] 26) := ⟨_, rfl⟩
  obtain ⟨g, hg⟩ : ∃ g, g = w.heap.size := ⟨_, rfl⟩
  have hB0 : BN w0 g (.string ⟨#[]⟩) (.slice none 0 0) (.string ⟨#[]⟩) (.slice none 0 0) := by rw [hw0, hg]; exact heap_alloc_new w _
  have hb0 : Below w.heap.size w w0 := by rw [hw0]; exact (Below.refl _ _).alloc (Nat.le_refl _) _
  have hwg : w.heap.size ≤ g := by omega
  have HEL : Hid (Calls Tryd.prog 14 #[.string (S l), .int .i64 0, .int .i64 1] w0 fun e w' => ElPost (Xm.elP 8 l) l.length w0 e w') := Lib.hid (element_any l hl 8 1 0 w0 rfl (Nat.zero_le _))
  have HRD := Lib.hid (Xm.elP_read l)
  have hsz : (S l).size = l.length := rfl
  have HW0 := Lib.hid hw0
  have HG := Lib.hid hg
  clear hw0 hg
  go_enter Tryd.func8, Tryd.ntmps8
  go_wp2_with fail
  rw [← HW0.out, ← HG.out]
  refine HEL.out.mono ?_
  rintro _ w1 ⟨q0, A, na, ca, q2, K, nk, ck, x, rfl, hb1, hli⟩
  go_upto_region 2 with fail
  have hB1 := hB0.next hb1
  have hbw1 := hb0.trans (hb1.mono hb0.size)
  have hglt := hB0.lt
  obtain ⟨w2, hw2⟩ : ∃ w2, w2 = w1.alloc (.cells #[.string q0, .slice A na ca, .string q2, .slice K nk ck] 26) := ⟨_, rfl⟩
  obtain ⟨gn, hgn⟩ : ∃ gn, gn = w1.heap.size := ⟨_, rfl⟩
  rw [← hw2, ← hgn]
  have hN2 : BN w2 gn (.string q0) (.slice A na ca) (.string q2) (.slice K nk ck) := by rw [hw2, hgn]; exact heap_alloc_new w1 _
  have hb2 : Below w1.heap.size w1 w2 := by rw [hw2]; exact (Below.refl _ _).alloc (Nat.le_refl _) _
  have hB2 := hB1.next hb2
  have hbw2 := hbw1.trans (hb2.mono hbw1.size)
  clear hw2 hgn hB0 hB1 hb0 hb1 hbw1 HEL
  cases hr : Xm.elP 8 l with
  | none =>
    rw [hr] at hli
    have hx : x = -1 := hli
    subst hx
    have HRS : Hid (Xm.read l = none) := Lib.hid (by rw [HRD.out, hr])
    have HPO : Hid (ReadPost none (.returned (.tuple #[.agg #[.string ⟨#[]⟩, .slice none 0 0, .string ⟨#[]⟩, .slice none 0 0], .int .i64 10])) w) := Lib.hid rfl
    have hxn : ((-1 : Int) != (l.length : Int)) = true := bne_iff_ne.2 (by omega)
    obtain ⟨c0, f0, c1, f1, c2, f2, c3, f3, e0, e1, e2, e3⟩ := hB2.copy (.string ⟨#[]⟩) (.slice none 0 0) (.string ⟨#[]⟩) (.slice none 0 0)
    have HBB := Lib.hid (below_copy hbw2 hwg (.string ⟨#[]⟩) (.slice none 0 0) (.string ⟨#[]⟩) (.slice none 0 0))
    clear hr hli
    go_wp2_with fail
    refine bodyPost_ret (v := .tuple #[.agg #[.string ⟨#[]⟩, .slice none 0 0, .string ⟨#[]⟩, .slice none 0 0], .int .i64 10]) ?_ rfl ⟨?_, HBB.out⟩
    · simp [results, Tryd.results8, go_sem, e0, e1, e2, e3]
    · rw [HRS.out]; exact HPO.out
  | some p =>
    obtain ⟨n, r⟩ := p
    rw [hr] at hli
    obtain ⟨hx, F, hft, hlo⟩ := hli
    have hs := Xm.elP_sound 8 l n r hr
    have hls := congrArg List.length hs
    rw [List.length_append] at hls
    obtain ⟨k, hk⟩ : ∃ k, k = l.length - r.length := ⟨_, rfl⟩
    rw [← hk] at hx
    subst hx
    by_cases h0 : r = []
    · have hkl : k = l.length := by rw [hk, h0]; rfl
      have hxn : ((k : Int) != (l.length : Int)) = false := by rw [hkl]; simp
      have HL := Lib.hid (limits (m := 1099511627776) (n := n) (by omega))
      have hft2 := FT.keep _ _ _ hft (Same.below hb2 (fun b hb => (hlo b hb).2))
      have hlo2 : ∀ b ∈ F, g < b ∧ b < w2.heap.size := fun b hb => ⟨Nat.lt_of_lt_of_le hglt (hlo b hb).1, Nat.lt_of_lt_of_le (hlo b hb).2 hb2.size⟩
      have HR := Lib.hid (refRight_any n _ w2 hft2.tr HL.out)
      have HRS : Hid (Xm.read l = if Xm.right n then some n else none) := Lib.hid (by rw [HRD.out, hr]; dsimp only; rw [if_pos h0])
      have z0 := hN2.c0
      have z1 := hN2.c1
      have z2 := hN2.c2
      have z3 := hN2.c3
      have HFT := Lib.hid hft2
      have HLO := Lib.hid hlo2
      clear hk hkl h0 hs hls hr hft hlo hft2 hlo2 hb2
      cases hq : Xm.right n with
      | false =>
        rw [hq] at HR HRS
        have HPO : Hid (ReadPost none (.returned (.tuple #[.agg #[.string ⟨#[]⟩, .slice none 0 0, .string ⟨#[]⟩, .slice none 0 0], .int .i64 10])) w) := Lib.hid rfl
        clear hq
        go_wp2_with fail
        refine HR.out.mono ?_
        rintro _ w3 ⟨rfl, hb3⟩
        have hB3 := hB2.next hb3
        have hbw3 := hbw2.trans (hb3.mono hbw2.size)
        obtain ⟨c0, f0, c1, f1, c2, f2, c3, f3, e0, e1, e2, e3⟩ := hB3.copy (.string ⟨#[]⟩) (.slice none 0 0) (.string ⟨#[]⟩) (.slice none 0 0)
        have HBB := Lib.hid (below_copy hbw3 hwg (.string ⟨#[]⟩) (.slice none 0 0) (.string ⟨#[]⟩) (.slice none 0 0))
        clear z0 z1 z2 z3
        go_wp2_with fail
        refine bodyPost_ret (v := .tuple #[.agg #[.string ⟨#[]⟩, .slice none 0 0, .string ⟨#[]⟩, .slice none 0 0], .int .i64 10]) ?_ rfl ⟨?_, HBB.out⟩
        · simp [results, Tryd.results8, go_sem, e0, e1, e2, e3]
        · rw [HRS.out]; exact HPO.out
      | true =>
        rw [hq] at HR HRS
        clear hq
        go_wp2_with fail
        refine HR.out.mono ?_
        rintro _ w3 ⟨rfl, hb3⟩
        have hB3 := hB2.next hb3
        have hN3 := hN2.next hb3
        have hbw3 := hbw2.trans (hb3.mono hbw2.size)
        have hft3 := FT.keep _ _ _ HFT.out (Same.below hb3 (fun b hb => (HLO.out b hb).2))
        have hng : g ∉ F := fun hm => absurd (HLO.out g hm).1 (Nat.lt_irrefl _)
        have hft4 := ft_copy hft3 hng (.string q0) (.slice A na ca) (.string q2) (.slice K nk ck)
        have HPO := Lib.hid (show ReadPost (some n) (.returned (.tuple #[.agg #[.string q0, .slice A na ca, .string q2, .slice K nk ck], .int .i64 0])) _ from ⟨_, rfl, hft4.tr⟩)
        have y0 := hN3.c0
        have y1 := hN3.c1
        have y2 := hN3.c2
        have y3 := hN3.c3
        obtain ⟨c0, f0, c1, f1, c2, f2, c3, f3, e0, e1, e2, e3⟩ := hB3.copy (.string q0) (.slice A na ca) (.string q2) (.slice K nk ck)
        have HBB := Lib.hid (below_copy hbw3 hwg (.string q0) (.slice A na ca) (.string q2) (.slice K nk ck))
        clear z0 z1 z2 z3 hft3 hft4 hng
        go_wp2_with fail
        refine bodyPost_ret (v := .tuple #[.agg #[.string q0, .slice A na ca, .string q2, .slice K nk ck], .int .i64 0]) ?_ rfl ⟨?_, HBB.out⟩
        · simp [results, Tryd.results8, go_sem, e0, e1, e2, e3]
        · rw [HRS.out]; exact HPO.out
    · have h1 : 0 < r.length := List.length_pos_iff.2 h0
      have hkl : k < l.length := by omega
      have hxn : ((k : Int) != (l.length : Int)) = true := bne_iff_ne.2 (by omega)
      have HRS : Hid (Xm.read l = none) := Lib.hid (by rw [HRD.out, hr]; dsimp only; rw [if_neg h0])
      have HPO : Hid (ReadPost none (.returned (.tuple #[.agg #[.string ⟨#[]⟩, .slice none 0 0, .string ⟨#[]⟩, .slice none 0 0], .int .i64 10])) w) := Lib.hid rfl
      obtain ⟨c0, f0, c1, f1, c2, f2, c3, f3, e0, e1, e2, e3⟩ := hB2.copy (.string ⟨#[]⟩) (.slice none 0 0) (.string ⟨#[]⟩) (.slice none 0 0)
      have HBB := Lib.hid (below_copy hbw2 hwg (.string ⟨#[]⟩) (.slice none 0 0) (.string ⟨#[]⟩) (.slice none 0 0))
      clear hk h0 hs hls hr hft hlo h1
      go_wp2_with fail
      refine bodyPost_ret (v := .tuple #[.agg #[.string ⟨#[]⟩, .slice none 0 0, .string ⟨#[]⟩, .slice none 0 0], .int .i64 10]) ?_ rfl ⟨?_, HBB.out⟩
      · simp [results, Tryd.results8, go_sem, e0, e1, e2, e3]
      · rw [HRS.out]; exact HPO.out
end Go.Proofs.YtpleaopefngafaaDoor
