/- What package cookie's guess answers, for any text of at most 2^20 bytes, where the variables of strconv that it reaches read as their texts lay them. -/
import Derived.Test.YtpdilhnbbokipaaDoorCr
namespace Go.Proofs.YtpdilhnbbokipaaDoor
set_option maxRecDepth 8000
open Go.RowKit

theorem Blk6.all {w : World} {g : Nat} {c : Ck.C} (h : Blk6 w g c) : w.cell? ⟨g, 0, none⟩ = some (.string (S c.name)) ∧ w.cell? ⟨g, 1, none⟩ = some (.string (S c.val)) ∧ w.cell? ⟨g, 2, none⟩ = some (.string (S c.path)) ∧ w.cell? ⟨g, 3, none⟩ = some (.int .i64 c.age) ∧ w.cell? ⟨g, 4, none⟩ = some (.bool c.sec) ∧ w.cell? ⟨g, 5, none⟩ = some (.bool c.http) :=
  ⟨h.c0, h.c1, h.c2, h.c3, h.c4, h.c5⟩

set_option maxHeartbeats 3200000 in
theorem guess_any (s : List UInt8) (w : World) (he : EnvE w) (hs : s.length ≤ 1048576) :
    Calls Tryd.prog 42 #[.string (S s)] w fun e w' => e = .returned (cV (Ck.guess s)) ∧ Below w.heap.size w w' := by
  obtain ⟨a, r, f, hcut⟩ : ∃ a r f, Lib.cut s Ck.pathM = (a, r, f) := ⟨_, _, _, rfl⟩
  have hl1 := cut_len s Ck.pathM
  rw [hcut] at hl1
  have hla : a.length ≤ 1048576 := Nat.le_trans hl1.1 hs
  have hlr : r.length ≤ 1048576 := Nat.le_trans hl1.2 hs
  obtain ⟨n, v, f2, hcut2⟩ : ∃ n v f2, Pct.cutAt 61 a = (n, v, f2) := ⟨_, _, _, rfl⟩
  obtain ⟨r1, hr1⟩ : ∃ r1, Lib.trimSuffix r Ck.httpM = r1 := ⟨_, rfl⟩
  obtain ⟨b1, hb1⟩ : ∃ b1, Lib.hasSuffix r Ck.httpM = b1 := ⟨_, rfl⟩
  have hlr1 : r1.length ≤ 1048576 := by rw [← hr1]; exact Nat.le_trans (trimSuffix_len _ _) hlr
  obtain ⟨r2, hr2⟩ : ∃ r2, Lib.trimSuffix r1 Ck.secM = r2 := ⟨_, rfl⟩
  obtain ⟨b2, hb2⟩ : ∃ b2, Lib.hasSuffix r1 Ck.secM = b2 := ⟨_, rfl⟩
  have hlr2 : r2.length ≤ 1048576 := by rw [← hr2]; exact Nat.le_trans (trimSuffix_len _ _) hlr1
  obtain ⟨p, t, f3, hcut3⟩ : ∃ p t f3, Lib.cut r2 Ck.ageM = (p, t, f3) := ⟨_, _, _, rfl⟩
  have hl3 := cut_len r2 Ck.ageM
  rw [hcut3] at hl3
  have hlt : t.length ≤ 1048576 := Nat.le_trans hl3.2 hlr2
  have HG := Lib.hid (show Ck.guess s = ⟨n, v, p, if f3 = true then Ck.atoiV t else -1, b2, b1⟩ by
    unfold Ck.guess
    rw [hcut]
    simp only
    rw [hcut2, hr1, hb1, hr2, hb2, hcut3])
  have HGT := Lib.hid (show f3 = true → Ck.guess s = ⟨n, v, p, Ck.atoiV t, b2, b1⟩ from fun h => by rw [HG.out, if_pos h])
  have HGF := Lib.hid (show f3 = false → Ck.guess s = ⟨n, v, p, -1, b2, b1⟩ from fun h => by rw [HG.out, if_neg (by rw [h]; simp)])
  clear HG
  have H1 := Lib.hid hcut
  have H2 := Lib.hid hcut2
  have H3 := Lib.hid hr1
  have H4 := Lib.hid hb1
  have H5 := Lib.hid hr2
  have H6 := Lib.hid hb2
  have H7 := Lib.hid hcut3
  clear hcut hcut2 hr1 hb1 hr2 hb2 hcut3 hl1 hl3
  go_enter Tryd.func42, Tryd.ntmps42
  go_upto_region 2 with fail
  have hG : GInv w w.heap.size (w.heap.size + 1) ⟨[], [], [], -1, false, false⟩ ((w.alloc (.cells #[.string ⟨#[]⟩, .string ⟨#[]⟩, .string ⟨#[]⟩, .int .i64 0, .bool false, .bool false] 32)).alloc (.cells #[.string ⟨#[]⟩, .string ⟨#[]⟩, .string ⟨#[]⟩, .int .i64 (-1), .bool false, .bool false] 32)) := by
    refine ⟨(Blk6.new w zeroC).below ((Below.refl _ _).alloc (Nat.le_refl _) _) (by simp), ?_, ((Below.refl _ _).alloc (Nat.le_refl _) _).alloc (by simp) _⟩
    have := Blk6.new (w.alloc (.cells #[.string ⟨#[]⟩, .string ⟨#[]⟩, .string ⟨#[]⟩, .int .i64 0, .bool false, .bool false] 32)) ⟨[], [], [], -1, false, false⟩
    rw [World.size_alloc] at this
    exact this
  generalize ((w.alloc (.cells #[.string ⟨#[]⟩, .string ⟨#[]⟩, .string ⟨#[]⟩, .int .i64 0, .bool false, .bool false] 32)).alloc (.cells #[.string ⟨#[]⟩, .string ⟨#[]⟩, .string ⟨#[]⟩, .int .i64 (-1), .bool false, .bool false] 32)) = w1 at hG ⊢
  have hrg : w.heap.size ≠ w.heap.size + 1 := by omega
  have hgg : w.heap.size ≤ w.heap.size + 1 := by omega
  have HE := Lib.hid (show ∀ w' c', GInv w w.heap.size (w.heap.size + 1) c' w' → EnvE w' from fun _ _ h => he.next h.below)
  go_wp2_with fail
  refine (cut_to s Ck.pathM a r f _ (HE.out _ _ hG).env (by omega) H1.out).mono ?_
  rintro e w2 ⟨rfl, hb2⟩
  have hG := hG.next hb2
  clear hb2
  go_wp2_with fail
  refine (strCut_to a 61 n v f2 _ (by omega) H2.out).mono ?_
  rintro e w3 ⟨rfl, hb3⟩
  have hG := hG.next hb3
  clear hb3
  obtain ⟨d0, d1, d2, d3, d4, d5⟩ := hG.cur.all
  have x0 := hG.cur.frozen 0
  have x1 := hG.cur.frozen 1
  go_upto_region 4 with fail
  have hG := hG.set hrg hgg 0 _ _ (hG.cur.set0 n)
  have hG := hG.set hrg hgg 1 _ _ (hG.cur.set1 v)
  generalize ((w3.setCell ⟨w.heap.size + 1, 0, none⟩ (.string (S n))).setCell ⟨w.heap.size + 1, 1, none⟩ (.string (S v))) = w4 at hG ⊢
  clear d0 d1 d2 d3 d4 d5 x0 x1
  go_wp2_with fail
  refine (cutSuffix_to r Ck.httpM r1 b1 _ (by omega) H3.out H4.out).mono ?_
  rintro e w5 ⟨rfl, rfl⟩
  obtain ⟨d0, d1, d2, d3, d4, d5⟩ := hG.cur.all
  have x0 := hG.cur.frozen 5
  go_upto_region 5 with fail
  have hG := hG.set hrg hgg 5 _ _ (hG.cur.set5 b1)
  generalize (w4.setCell ⟨w.heap.size + 1, 5, none⟩ (.bool b1)) = w5 at hG ⊢
  clear d0 d1 d2 d3 d4 d5 x0
  go_wp2_with fail
  refine (cutSuffix_to r1 Ck.secM r2 b2 _ (by omega) H5.out H6.out).mono ?_
  rintro e w6 ⟨rfl, rfl⟩
  obtain ⟨d0, d1, d2, d3, d4, d5⟩ := hG.cur.all
  have x0 := hG.cur.frozen 4
  go_upto_region 6 with fail
  have hG := hG.set hrg hgg 4 _ _ (hG.cur.set4 b2)
  generalize (w5.setCell ⟨w.heap.size + 1, 4, none⟩ (.bool b2)) = w6 at hG ⊢
  clear d0 d1 d2 d3 d4 d5 x0
  go_wp2_with fail
  refine (cut_to r2 Ck.ageM p t f3 _ (HE.out _ _ hG).env (by omega) H7.out).mono ?_
  rintro e w7 ⟨rfl, hb7⟩
  have hG := hG.next hb7
  clear hb7
  obtain ⟨d0, d1, d2, d3, d4, d5⟩ := hG.cur.all
  have x0 := hG.cur.frozen 2
  go_upto_region 8 with fail
  have hG := hG.set hrg hgg 2 _ _ (hG.cur.set2 p)
  generalize (w7.setCell ⟨w.heap.size + 1, 2, none⟩ (.string (S p))) = w8 at hG ⊢
  clear d0 d1 d2 d3 d4 d5 x0
  cases f3 with
  | true =>
    go_wp2_with fail
    refine (atoi_any t _ (HE.out _ _ hG) (by omega)).mono ?_
    rintro e w9 ⟨v9, rfl, hb9⟩
    have hG := hG.next hb9
    clear hb9
    have HG := Lib.hid (HGT.out (by first | trivial | rfl))
    clear HGT HGF
    obtain ⟨ag, hag⟩ : ∃ ag, ag = Ck.atoiV t := ⟨_, rfl⟩
    rw [← hag] at HG ⊢
    clear hag
    obtain ⟨d0, d1, d2, d3, d4, d5⟩ := hG.cur.all
    have x0 := hG.cur.frozen 3
    go_upto_region 10 with fail
    have hG := hG.set hrg hgg 3 _ _ (hG.cur.set3 ag)
    generalize (w9.setCell ⟨w.heap.size + 1, 3, none⟩ (.int .i64 ag)) = w10 at hG ⊢
    clear d0 d1 d2 d3 d4 d5 x0
    obtain ⟨d0, d1, d2, d3, d4, d5⟩ := hG.cur.all
    obtain ⟨z0, z1, z2, z3, z4, z5⟩ := hG.res.all
    have y0 := hG.res.frozen 0
    have y1 := hG.res.frozen 1
    have y2 := hG.res.frozen 2
    have y3 := hG.res.frozen 3
    have y4 := hG.res.frozen 4
    have y5 := hG.res.frozen 5
    have HBB := Lib.hid ((((((hG.below.setCell (p := ⟨w.heap.size, 0, none⟩) (Nat.le_refl _) (.string (S n))).setCell (p := ⟨w.heap.size, 1, none⟩) (Nat.le_refl _) (.string (S v))).setCell (p := ⟨w.heap.size, 2, none⟩) (Nat.le_refl _) (.string (S p))).setCell (p := ⟨w.heap.size, 3, none⟩) (Nat.le_refl _) (.int .i64 ag)).setCell (p := ⟨w.heap.size, 4, none⟩) (Nat.le_refl _) (.bool b2)).setCell (p := ⟨w.heap.size, 5, none⟩) (Nat.le_refl _) (.bool b1))
    clear hG
    go_wp2
    exact bodyPost_ret (v := .agg #[.string (S n), .string (S v), .string (S p), .int .i64 ag, .bool b2, .bool b1]) (by simp [results, Tryd.results42, go_sem, z0, z1, z2, z3, z4, z5]) rfl ⟨by rw [HG.out], HBB.out⟩
  | false =>
    have HG := Lib.hid (HGF.out (by first | rfl | trivial))
    clear HGT HGF
    obtain ⟨d0, d1, d2, d3, d4, d5⟩ := hG.cur.all
    obtain ⟨z0, z1, z2, z3, z4, z5⟩ := hG.res.all
    have y0 := hG.res.frozen 0
    have y1 := hG.res.frozen 1
    have y2 := hG.res.frozen 2
    have y3 := hG.res.frozen 3
    have y4 := hG.res.frozen 4
    have y5 := hG.res.frozen 5
    have HBB := Lib.hid ((((((hG.below.setCell (p := ⟨w.heap.size, 0, none⟩) (Nat.le_refl _) (.string (S n))).setCell (p := ⟨w.heap.size, 1, none⟩) (Nat.le_refl _) (.string (S v))).setCell (p := ⟨w.heap.size, 2, none⟩) (Nat.le_refl _) (.string (S p))).setCell (p := ⟨w.heap.size, 3, none⟩) (Nat.le_refl _) (.int .i64 (-1))).setCell (p := ⟨w.heap.size, 4, none⟩) (Nat.le_refl _) (.bool b2)).setCell (p := ⟨w.heap.size, 5, none⟩) (Nat.le_refl _) (.bool b1))
    clear hG
    go_wp2
    exact bodyPost_ret (v := .agg #[.string (S n), .string (S v), .string (S p), .int .i64 (-1), .bool b2, .bool b1]) (by simp [results, Tryd.results42, go_sem, z0, z1, z2, z3, z4, z5]) rfl ⟨by rw [HG.out], HBB.out⟩
end Go.Proofs.YtpdilhnbbokipaaDoor
