/- What package xml's Read answers, for any text of at most 2^20 bytes. -/
import Derived.Test.YtpleaopefngafaaDoorXmGu
namespace Go.Proofs.YtpleaopefngafaaDoor
set_option maxRecDepth 8000
open Go.RowKit

def zN : Value := .agg #[.string ⟨#[]⟩, .slice none 0 0, .string ⟨#[]⟩, .slice none 0 0]
/-- What Read tells. -/
def ReadPost (o : Option Xm.N) (e : Ending) (w' : World) : Prop :=
  match o with
  | some n => ∃ v, e = .returned (.tuple #[v, .int .i64 0]) ∧ Tr w' w'.heap.size n v
  | none => e = .returned (.tuple #[zN, .int .i64 10])

set_option maxHeartbeats 1600000 in
theorem read_any (s : List UInt8) (w : World) (hE : EnvX w) (hl : s.length ≤ 13000000) :
    Calls Tryd.prog 7 #[.string (S s)] w fun e w' => ReadPost (Xm.read s) e w' ∧ Below w.heap.size w w' := by
  obtain ⟨w0, hw0⟩ : ∃ w0, w0 = w.alloc (.cells #[.string ⟨#[]⟩, .slice none 0 0, .string ⟨#[]⟩, .slice none 0 0] 26) := ⟨_, rfl⟩
  obtain ⟨g, hg⟩ : ∃ g, g = w.heap.size := ⟨_, rfl⟩
  have hB0 : BN w0 g (.string ⟨#[]⟩) (.slice none 0 0) (.string ⟨#[]⟩) (.slice none 0 0) := by rw [hw0, hg]; exact heap_alloc_new w _
  have hb0 : Below w.heap.size w w0 := by rw [hw0]; exact (Below.refl _ _).alloc (Nat.le_refl _) _
  have hwg : w.heap.size ≤ g := by omega
  have hE0 := hE.next hb0
  have HGU := Lib.hid (guess_any s w0 hE0 (by omega))
  have hshort := Xm.guess_short s
  have hrd : Xm.read s = if Xm.right (Xm.guess 400 [] s) && (Xm.wr (Xm.guess 400 [] s) == s) then some (Xm.guess 400 [] s) else none := rfl
  obtain ⟨G, hG⟩ : ∃ G, G = Xm.guess 400 [] s := ⟨_, rfl⟩
  rw [← hG] at HGU hshort hrd
  clear hG
  have hlim : All (Lim 1099511627776) G := limits (by omega)
  have HLIM := Lib.hid hlim
  have HWL : Hid ((Xm.wr G).length ≤ 268435455) := Lib.hid (by omega)
  have HRD := Lib.hid hrd
  have HW0 := Lib.hid hw0
  have HG := Lib.hid hg
  clear hshort hlim hrd hw0 hg
  go_enter Tryd.func7, Tryd.ntmps7
  go_wp2_with fail
  rw [← HW0.out, ← HG.out]
  refine HGU.out.mono ?_
  rintro e w1 ⟨v, F, rfl, hft, hlo, hb1⟩
  have ht := hft.tr
  obtain ⟨A, ca, K, ck, vsk, Gk, hv, _⟩ := hft.form
  subst hv
  have hB1 := hB0.next hb1
  have hbw1 := hb0.trans (hb1.mono hb0.size)
  have hE1 := hE0.next hb1
  have HT := Lib.hid ht
  obtain ⟨w2, hw2⟩ : ∃ w2, w2 = w1.alloc (.cells #[.string (S G.name), .slice A G.attrs.length ca, .string (S G.text), .slice K G.kids.length ck] 26) := ⟨_, rfl⟩
  obtain ⟨gn, hgn⟩ : ∃ gn, gn = w1.heap.size := ⟨_, rfl⟩
  have hN2 : BN w2 gn (.string (S G.name)) (.slice A G.attrs.length ca) (.string (S G.text)) (.slice K G.kids.length ck) := by rw [hw2, hgn]; exact heap_alloc_new w1 _
  have hb2 : Below w1.heap.size w1 w2 := by rw [hw2]; exact (Below.refl _ _).alloc (Nat.le_refl _) _
  have hB2 := hB1.next hb2
  have hbw2 := hbw1.trans (hb2.mono hbw1.size)
  have hE2 := hE1.next hb2
  have hgn1 : g < gn := by rw [hgn]; exact hB1.lt
  have HWR := Lib.hid (writeX_any G _ w2 hE2 (ht.next hb2) HLIM.out HWL.out)
  have hE1z := hE1.two
  have hft2 := FT.keep _ _ _ hft (Same.below hb2 (fun b hb => (hlo b hb).2))
  have HFT2 := Lib.hid hft2
  have hlo2 : ∀ b ∈ F, g < b ∧ b < w2.heap.size := fun b hb => ⟨by have := (hlo b hb).1; have := hB0.lt; omega, Nat.lt_of_lt_of_le (hlo b hb).2 hb2.size⟩
  have HLO := Lib.hid hlo2
  have hT2 := ht.next hb2
  have HTR := Lib.hid hT2
  have HW2 := Lib.hid hw2
  have HGN := Lib.hid hgn
  clear hft hlo hft2 hlo2 hB0 hb0 hb1 hE0 ht hw2 hgn hB1 hbw1 hE1 hb2 hT2 hE2
  unfold nV at HWR ⊢
  have z0 := hN2.c0
  have z1 := hN2.c1
  have z2 := hN2.c2
  have z3 := hN2.c3
  cases hr : Xm.right G with
  | false =>
    have HWN : Hid (Xm.write G = none) := Lib.hid (by unfold Xm.write; rw [hr]; rfl)
    have HRS : Hid (Xm.read s = none) := Lib.hid (by rw [HRD.out, hr]; rfl)
    have HPO : Hid (ReadPost none (.returned (.tuple #[.agg #[.string ⟨#[]⟩, .slice none 0 0, .string ⟨#[]⟩, .slice none 0 0], .int .i64 10])) w) := Lib.hid rfl
    rw [HWN.out] at HWR
    clear hr
    unfold toldW at HWR
    go_wp2_with fail
    rw [← HW2.out, ← HGN.out]
    go_wp2_with fail
    refine HWR.out.mono ?_
    rintro e w3 ⟨rfl, hb3⟩
    have hB3 := hB2.next hb3
    have hN3 := hN2.next hb3
    have hbw3 := hbw2.trans (hb3.mono hbw2.size)
    clear z0 z1 z2 z3 hB2 hN2 hb3 hbw2
    have k1 := hB3.set0 (.string ⟨#[]⟩)
    have k2 := k1.set1 (.slice none 0 0)
    have k3 := k2.set2 (.string ⟨#[]⟩)
    have k4 := k3.set3 (.slice none 0 0)
    have c0 := hB3.c0
    have f0 := hB3.fr 0
    have c1 := k1.c1
    have f1 := k1.fr 1
    have c2 := k2.c2
    have f2 := k2.fr 2
    have c3 := k3.c3
    have f3 := k3.fr 3
    have q0 := k4.c0
    have q1 := k4.c1
    have q2 := k4.c2
    have q3 := k4.c3
    have HBB := Lib.hid ((((hbw3.setCell (p := ⟨g, 0, none⟩) hwg (.string ⟨#[]⟩)).setCell (p := ⟨g, 1, none⟩) hwg (.slice none 0 0)).setCell (p := ⟨g, 2, none⟩) hwg (.string ⟨#[]⟩)).setCell (p := ⟨g, 3, none⟩) hwg (.slice none 0 0))
    clear k1 k2 k3 k4 hB3 hN3 hbw3
    go_wp2_with fail
    refine bodyPost_ret (v := .tuple #[.agg #[.string ⟨#[]⟩, .slice none 0 0, .string ⟨#[]⟩, .slice none 0 0], .int .i64 10]) ?_ rfl ⟨?_, HBB.out⟩
    · simp [results, Tryd.results7, go_sem, q0, q1, q2, q3]
    · rw [HRS.out]; exact HPO.out
  | true =>
    have HWN : Hid (Xm.write G = some (Xm.wr G)) := Lib.hid (by unfold Xm.write; rw [hr]; rfl)
    rw [HWN.out] at HWR
    unfold toldW at HWR
    by_cases hq : Xm.wr G = s
    · have HRS : Hid (Xm.read s = some G) := Lib.hid (by rw [HRD.out, hr, hq]; simp)
      have hc : ((S (Xm.wr G)).toList == (S s).toList) = true := by rw [hq]; simp
      clear hr hq
      go_wp2_with fail
      rw [← HW2.out, ← HGN.out]
      go_wp2_with fail
      refine HWR.out.mono ?_
      rintro e w3 ⟨rfl, hb3⟩
      have hB3 := hB2.next hb3
      have hN3 := hN2.next hb3
      have hbw3 := hbw2.trans (hb3.mono hbw2.size)
      have hFT3 := FT.keep _ _ _ HFT2.out (Same.below hb3 (fun b hb => (HLO.out b hb).2))
      have hng : g ∉ F := fun hm => absurd (HLO.out g hm).1 (Nat.lt_irrefl _)
      have hFT4 := FT.keep _ _ _ hFT3 ((((Same.set (i := 0) hng (.string (S G.name))).trans (Same.set (i := 1) hng (.slice A G.attrs.length ca))).trans (Same.set (i := 2) hng (.string (S G.text)))).trans (Same.set (i := 3) hng (.slice K G.kids.length ck)))
      have HPO : Hid (ReadPost (some G) (.returned (.tuple #[nV G.name A G.attrs.length ca G.text K G.kids.length ck, .int .i64 0])) ((((w3.setCell ⟨g, 0, none⟩ (.string (S G.name))).setCell ⟨g, 1, none⟩ (.slice A G.attrs.length ca)).setCell ⟨g, 2, none⟩ (.string (S G.text))).setCell ⟨g, 3, none⟩ (.slice K G.kids.length ck))) := Lib.hid ⟨_, rfl, hFT4.tr⟩
      have z0' := hN3.c0
      have z1' := hN3.c1
      have z2' := hN3.c2
      have z3' := hN3.c3
      clear z0 z1 z2 z3 hB2 hN2 hb3 hbw2 hFT3 hFT4 hng
      have k1 := hB3.set0 (.string (S G.name))
      have k2 := k1.set1 (.slice A G.attrs.length ca)
      have k3 := k2.set2 (.string (S G.text))
      have k4 := k3.set3 (.slice K G.kids.length ck)
      have c0 := hB3.c0
      have f0 := hB3.fr 0
      have c1 := k1.c1
      have f1 := k1.fr 1
      have c2 := k2.c2
      have f2 := k2.fr 2
      have c3 := k3.c3
      have f3 := k3.fr 3
      have q0 := k4.c0
      have q1 := k4.c1
      have q2 := k4.c2
      have q3 := k4.c3
      have HBB := Lib.hid ((((hbw3.setCell (p := ⟨g, 0, none⟩) hwg (.string (S G.name))).setCell (p := ⟨g, 1, none⟩) hwg (.slice A G.attrs.length ca)).setCell (p := ⟨g, 2, none⟩) hwg (.string (S G.text))).setCell (p := ⟨g, 3, none⟩) hwg (.slice K G.kids.length ck))
      clear k1 k2 k3 k4 hB3 hN3 hbw3
      go_wp2_with fail
      refine bodyPost_ret (v := .tuple #[.agg #[.string (S G.name), .slice A G.attrs.length ca, .string (S G.text), .slice K G.kids.length ck], .int .i64 0]) ?_ rfl ⟨?_, HBB.out⟩
      · simp [results, Tryd.results7, go_sem, q0, q1, q2, q3]
      · rw [HRS.out]; exact HPO.out
    · have HRS : Hid (Xm.read s = none) := Lib.hid (by rw [HRD.out, hr]; simp [hq])
      have HPO : Hid (ReadPost none (.returned (.tuple #[.agg #[.string ⟨#[]⟩, .slice none 0 0, .string ⟨#[]⟩, .slice none 0 0], .int .i64 10])) w) := Lib.hid rfl
      have hc : ((S (Xm.wr G)).toList == (S s).toList) = false := by rw [S_list, S_list]; simpa using hq
      clear hr hq
      go_wp2_with fail
      rw [← HW2.out, ← HGN.out]
      go_wp2_with fail
      refine HWR.out.mono ?_
      rintro e w3 ⟨rfl, hb3⟩
      have hB3 := hB2.next hb3
      have hN3 := hN2.next hb3
      have hbw3 := hbw2.trans (hb3.mono hbw2.size)
      clear z0 z1 z2 z3 hB2 hN2 hb3 hbw2
      have k1 := hB3.set0 (.string ⟨#[]⟩)
      have k2 := k1.set1 (.slice none 0 0)
      have k3 := k2.set2 (.string ⟨#[]⟩)
      have k4 := k3.set3 (.slice none 0 0)
      have c0 := hB3.c0
      have f0 := hB3.fr 0
      have c1 := k1.c1
      have f1 := k1.fr 1
      have c2 := k2.c2
      have f2 := k2.fr 2
      have c3 := k3.c3
      have f3 := k3.fr 3
      have q0 := k4.c0
      have q1 := k4.c1
      have q2 := k4.c2
      have q3 := k4.c3
      have HBB := Lib.hid ((((hbw3.setCell (p := ⟨g, 0, none⟩) hwg (.string ⟨#[]⟩)).setCell (p := ⟨g, 1, none⟩) hwg (.slice none 0 0)).setCell (p := ⟨g, 2, none⟩) hwg (.string ⟨#[]⟩)).setCell (p := ⟨g, 3, none⟩) hwg (.slice none 0 0))
      clear k1 k2 k3 k4 hB3 hN3 hbw3
      go_wp2_with fail
      refine bodyPost_ret (v := .tuple #[.agg #[.string ⟨#[]⟩, .slice none 0 0, .string ⟨#[]⟩, .slice none 0 0], .int .i64 10]) ?_ rfl ⟨?_, HBB.out⟩
      · simp [results, Tryd.results7, go_sem, q0, q1, q2, q3]
      · rw [HRS.out]; exact HPO.out
end Go.Proofs.YtpleaopefngafaaDoor
