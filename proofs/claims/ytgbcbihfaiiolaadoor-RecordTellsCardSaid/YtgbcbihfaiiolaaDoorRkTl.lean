/- The call RecordTells answers true, for any record, any two kinds, any name and bytes. -/
import Derived.Test.YtgbcbihfaiiolaaDoorRkL
namespace Go.Proofs.YtgbcbihfaiiolaaDoor
set_option maxRecDepth 8000
open Go.RowKit

set_option maxHeartbeats 3200000 in
theorem recordTells_any (r : Rk.R) (kind of_ : Int) (name s : List UInt8) (w : World) (hE : EnvT w) :
    Calls Tryd.prog 3 #[recV r, .int .i64 kind, .int .i64 of_, .string (S name), .string (S s)] w (AwakePost w) := by
  obtain ⟨w1, hw1⟩ : ∃ w1, w1 = w.alloc (.cells (recCs r) 23) := ⟨_, rfl⟩
  have s1 : w1.heap.size = w.heap.size + 1 := by rw [hw1]; simp
  have b1 : Below w.heap.size w w1 := by rw [hw1]; exact (Below.refl _ _).alloc (Nat.le_refl _) _
  have HK : Hid (∀ w', Below w1.heap.size w1 w' → RecAt w' w.heap.size r) := by
    rw [s1, hw1]
    exact recAt_alloc w r
  have hEz := hE.next b1
  have hA := awake13_any w1 hEz
  have HZ := Lib.hid b1
  have hF := fun w' => recFew_any r w'
  have HFW : Hid (Rk.few r = true → Rk.Few r) := Lib.hid Rk.few_of
  generalize Rk.few r = fw at hF HFW
  obtain ⟨k, n, p, u, sv, l, m, d, x, f⟩ := r
  have hw1' := hw1
  unfold recCs at hw1'
  unfold recV at hF ⊢
  dsimp only at hw1' hF ⊢
  clear s1 b1 hw1
  have hns : ((S name).size : Int) = (name.length : Int) := rfl
  have hss : ((S s).size : Int) = (s.length : Int) := rfl
  go_enter Tryd.func3, Tryd.ntmps3
  go_upto_region 1 with fail
  rw [← hw1']
  clear hw1'
  go_upto_region 3 with (first
    | (go_at_call 8; refine hA.mono ?_; rintro e w3 ⟨rfl, hq⟩; have hz := hq; have hEz3 := hEz.next hq; obtain ⟨c0, c1, c2, c3, c4, c5, c6, c7, c8, c9⟩ := HK.out _ hz; clear hA)
    | (go_at_call 9; refine (hF _).mono ?_; rintro e w4 ⟨rfl, hq⟩; have hz4 := hz.trans (hq.mono hz.size); have hEz4 := hEz3.next hq; clear c0 c1 c2 c3 c4 c5 c6 c7 c8 c9 hq hz hEz3 hF; obtain ⟨c0, c1, c2, c3, c4, c5, c6, c7, c8, c9⟩ := HK.out _ hz4))
  have HZ4 := Lib.hid (HZ.out.trans (hz4.mono HZ.out.size))
  have HS4 := Lib.hid hz4
  clear hz4 hq
  by_cases hfew : fw = true ∧ name.length ≤ 60 ∧ s.length ≤ 400
  case neg =>
    have hthree : fw = false ∨ (fw = true ∧ (60 : Int) < (name.length : Int)) ∨ (fw = true ∧ ¬ (60 : Int) < (name.length : Int) ∧ (400 : Int) < (s.length : Int)) := by
      cases fw with
      | false => exact .inl rfl
      | true =>
        by_cases h : name.length ≤ 60
        · refine .inr (.inr ⟨rfl, by omega, ?_⟩)
          have : ¬ s.length ≤ 400 := fun h2 => hfew ⟨rfl, h, h2⟩
          omega
        · exact .inr (.inl ⟨rfl, by omega⟩)
    clear hfew c0 c1 c2 c3 c4 c5 c6 c7 c8 c9
    rcases hthree with rfl | ⟨rfl, h1⟩ | ⟨rfl, h1, h2⟩ <;>
      (go_wp2_with fail
       go_ret
       exact ⟨rfl, HZ4.out⟩)
  case pos =>
  obtain ⟨rfl, hnl, hsl⟩ := hfew
  have hnI : ¬ (60 : Int) < (name.length : Int) := by omega
  have hsI : ¬ (400 : Int) < (s.length : Int) := by omega
  have hfw := HFW.out rfl
  have hn := hfw.nm
  have hp := hfw.pa
  dsimp only at hn hp
  clear HFW hfw
  have hN := fun w' h => recEncode_any ⟨k, n, p, u, sv, l, m, d, x, f⟩ (by show n.length ≤ _; omega) (by show p.length ≤ _; omega) w' h
  have hR := fun w' h => recRight_any ⟨k, n, p, u, sv, l, m, d, x, f⟩ (by show n.length ≤ _; omega) (by show p.length ≤ _; omega) w' h
  have hN2 := fun w' => refEncode13_any ⟨k, n, p, u, sv, l, m, d, x, f⟩ (by show n.length ≤ _; omega) (by show p.length ≤ _; omega) w'
  have hR2 := fun w' => refRight13_any ⟨k, n, p, u, sv, l, m, d, x, f⟩ (by show n.length ≤ _; omega) (by show p.length ≤ _; omega) w'
  have hD := fun w' h => recDecode_any name s (by omega) (by omega) w' h
  have hD2 := fun w' => refDecode13_any name s (by omega) (by omega) w'
  have hC := fun w' => comes_any kind of_ w'
  have hC2 := fun w' => refComes_any kind of_ w'
  obtain ⟨ya, ea, hya, -⟩ := encV_cases ⟨k, n, p, u, sv, l, m, d, x, f⟩
  rw [hya] at hN hN2
  obtain ⟨rx, gx, hdv⟩ : ∃ (rx : Rk.R) (gx : Int), decV name s = .tuple #[recV rx, .int .i64 gx] := by
    unfold decV
    split
    · exact ⟨_, _, rfl⟩
    · exact ⟨_, _, rfl⟩
  rw [hdv] at hD hD2
  generalize Rk.right ⟨k, n, p, u, sv, l, m, d, x, f⟩ = q at hR hR2
  generalize Rk.comes kind of_ = cc at hC hC2
  clear hya hdv
  obtain ⟨k2, n2, p2, u2, sv2, l2, m2, d2', x2, f2⟩ := rx
  unfold recV at hN hN2 hR hR2 hD hD2
  dsimp only at hN hN2 hR hR2 hD hD2
  go_upto_region 7 with (first
    | (go_at_call 10; refine (hN _ hEz4).mono ?_; rintro e w5 ⟨rfl, hq⟩; have hz5 := HS4.out.trans (hq.mono HS4.out.size); have hEz5 := hEz4.next hq; clear c0 c1 c2 c3 c4 c5 c6 c7 c8 c9 hq hN; obtain ⟨c0, c1, c2, c3, c4, c5, c6, c7, c8, c9⟩ := HK.out _ hz5)
    | (go_at_call 11; refine (hN2 _).mono ?_; rintro e w6 ⟨rfl, hq⟩; have hz6 := hz5.trans (hq.mono hz5.size); have hEz6 := hEz5.next hq; clear c0 c1 c2 c3 c4 c5 c6 c7 c8 c9 hq hN2 hz5 hEz5))
  go_upto_region 8 with (go_at_call 12; refine (hD _ hEz6).mono ?_; rintro e w7 ⟨rfl, hq⟩; have hz7 := hz6.trans (hq.mono hz6.size); have hEz7 := hEz6.next hq; clear hq hD hz6 hEz6)
  have hbx : Below w7.heap.size w7 (w7.alloc (.cells (recCs ⟨k2, n2, p2, u2, sv2, l2, m2, d2', x2, f2⟩) 23)) := (Below.refl _ _).alloc (Nat.le_refl _) _
  have hkx := heap_alloc_new w7 (.cells (recCs ⟨k2, n2, p2, u2, sv2, l2, m2, d2', x2, f2⟩) 23)
  change Code.wp _ _ _ _ (w7.alloc (.cells (recCs ⟨k2, n2, p2, u2, sv2, l2, m2, d2', x2, f2⟩) 23))
  generalize w7.alloc (.cells (recCs ⟨k2, n2, p2, u2, sv2, l2, m2, d2', x2, f2⟩) 23) = wx at hbx hkx ⊢
  have hzx := hz7.trans (hbx.mono hz7.size)
  have hEx := hEz7.next hbx
  have HKX := Lib.hid hkx
  clear hkx hz7 hEz7 hbx
  go_upto_region 9 with (go_at_call 13; refine (hD2 _).mono ?_; rintro e w8 ⟨rfl, hq8⟩)
  have hby : Below w8.heap.size w8 (w8.alloc (.cells (recCs ⟨k2, n2, p2, u2, sv2, l2, m2, d2', x2, f2⟩) 23)) := (Below.refl _ _).alloc (Nat.le_refl _) _
  have hky := heap_alloc_new w8 (.cells (recCs ⟨k2, n2, p2, u2, sv2, l2, m2, d2', x2, f2⟩) 23)
  change Code.wp _ _ _ _ (w8.alloc (.cells (recCs ⟨k2, n2, p2, u2, sv2, l2, m2, d2', x2, f2⟩) 23))
  generalize w8.alloc (.cells (recCs ⟨k2, n2, p2, u2, sv2, l2, m2, d2', x2, f2⟩) 23) = wy at hby hky ⊢
  have hxy := hq8.trans (hby.mono hq8.size)
  have hzy := hzx.trans (hxy.mono hzx.size)
  have hEy := hEx.next hxy
  have HA3 : Hid (∀ w', Below wy.heap.size wy w' → RecAt w' w.heap.size ⟨k, n, p, u, sv, l, m, d, x, f⟩ ∧ RecAt w' w7.heap.size ⟨k2, n2, p2, u2, sv2, l2, m2, d2', x2, f2⟩ ∧ RecAt w' w8.heap.size ⟨k2, n2, p2, u2, sv2, l2, m2, d2', x2, f2⟩) := Lib.hid fun w' hb => by
    have h1 := hxy.trans (hb.mono hxy.size)
    exact ⟨HK.out _ (hzy.trans (hb.mono hzy.size)), recAt_blk ((h1.block _ (lt_of_blk HKX.out)).trans HKX.out), recAt_blk ((hb.block _ (lt_of_blk hky)).trans hky)⟩
  have HZY := Lib.hid (HZ.out.trans (hzy.mono HZ.out.size))
  obtain ⟨⟨c0, c1, c2, c3, c4, c5, c6, c7, c8, c9⟩, -, -⟩ := HA3.out wy (Below.refl _ _)
  clear hxy hzy hq8 hby hky hD2 hzx hEx
  have hbd : Below wy.heap.size wy wy.drew := (Below.refl _ _).drew
  have hEd : EnvT wy.drew := hEy.next hbd
  have HZD := Lib.hid (HZY.out.trans (hbd.mono HZY.out.size))
  have HC3 : Hid (∀ w', Below wy.drew.heap.size wy.drew w' → w'.cell? ⟨w.heap.size, 0, none⟩ = some (.int .i64 k) ∧ w'.cell? ⟨w.heap.size, 1, none⟩ = some (.string (S n)) ∧ w'.cell? ⟨w.heap.size, 2, none⟩ = some (.string (S p)) ∧ w'.cell? ⟨w.heap.size, 3, none⟩ = some (.string (S u)) ∧ w'.cell? ⟨w.heap.size, 4, none⟩ = some (.string (S sv)) ∧ w'.cell? ⟨w.heap.size, 5, none⟩ = some (.string (S l)) ∧ w'.cell? ⟨w.heap.size, 6, none⟩ = some (.int .i64 m) ∧ w'.cell? ⟨w.heap.size, 7, none⟩ = some (.int .i64 d) ∧ w'.cell? ⟨w.heap.size, 8, none⟩ = some (.int .i64 x) ∧ w'.cell? ⟨w.heap.size, 9, none⟩ = some (.bool f) ∧ w'.cell? ⟨w7.heap.size, 0, none⟩ = some (.int .i64 k2) ∧ w'.cell? ⟨w7.heap.size, 1, none⟩ = some (.string (S n2)) ∧ w'.cell? ⟨w7.heap.size, 2, none⟩ = some (.string (S p2)) ∧ w'.cell? ⟨w7.heap.size, 3, none⟩ = some (.string (S u2)) ∧ w'.cell? ⟨w7.heap.size, 4, none⟩ = some (.string (S sv2)) ∧ w'.cell? ⟨w7.heap.size, 5, none⟩ = some (.string (S l2)) ∧ w'.cell? ⟨w7.heap.size, 6, none⟩ = some (.int .i64 m2) ∧ w'.cell? ⟨w7.heap.size, 7, none⟩ = some (.int .i64 d2') ∧ w'.cell? ⟨w7.heap.size, 8, none⟩ = some (.int .i64 x2) ∧ w'.cell? ⟨w7.heap.size, 9, none⟩ = some (.bool f2) ∧ w'.cell? ⟨w8.heap.size, 0, none⟩ = some (.int .i64 k2) ∧ w'.cell? ⟨w8.heap.size, 1, none⟩ = some (.string (S n2)) ∧ w'.cell? ⟨w8.heap.size, 2, none⟩ = some (.string (S p2)) ∧ w'.cell? ⟨w8.heap.size, 3, none⟩ = some (.string (S u2)) ∧ w'.cell? ⟨w8.heap.size, 4, none⟩ = some (.string (S sv2)) ∧ w'.cell? ⟨w8.heap.size, 5, none⟩ = some (.string (S l2)) ∧ w'.cell? ⟨w8.heap.size, 6, none⟩ = some (.int .i64 m2) ∧ w'.cell? ⟨w8.heap.size, 7, none⟩ = some (.int .i64 d2') ∧ w'.cell? ⟨w8.heap.size, 8, none⟩ = some (.int .i64 x2) ∧ w'.cell? ⟨w8.heap.size, 9, none⟩ = some (.bool f2)) := Lib.hid fun w' hb => by
    obtain ⟨⟨a0, a1, a2, a3, a4, a5, a6, a7, a8, a9⟩, ⟨b0, b1, b2, b3, b4, b5, b6, b7, b8, b9⟩, ⟨e0, e1, e2, e3, e4, e5, e6, e7, e8, e9⟩⟩ := HA3.out w' (hbd.trans (hb.mono hbd.size))
    exact ⟨a0, a1, a2, a3, a4, a5, a6, a7, a8, a9, b0, b1, b2, b3, b4, b5, b6, b7, b8, b9, e0, e1, e2, e3, e4, e5, e6, e7, e8, e9⟩
  clear c0 c1 c2 c3 c4 c5 c6 c7 c8 c9 hbd HA3
  go_region_held3 (fun wx => wx.cell? ⟨w.heap.size, 0, none⟩ = some (.int .i64 k) ∧ wx.cell? ⟨w.heap.size, 1, none⟩ = some (.string (S n)) ∧ wx.cell? ⟨w.heap.size, 2, none⟩ = some (.string (S p)) ∧ wx.cell? ⟨w.heap.size, 3, none⟩ = some (.string (S u)) ∧ wx.cell? ⟨w.heap.size, 4, none⟩ = some (.string (S sv)) ∧ wx.cell? ⟨w.heap.size, 5, none⟩ = some (.string (S l)) ∧ wx.cell? ⟨w.heap.size, 6, none⟩ = some (.int .i64 m) ∧ wx.cell? ⟨w.heap.size, 7, none⟩ = some (.int .i64 d) ∧ wx.cell? ⟨w.heap.size, 8, none⟩ = some (.int .i64 x) ∧ wx.cell? ⟨w.heap.size, 9, none⟩ = some (.bool f) ∧ wx.cell? ⟨w7.heap.size, 0, none⟩ = some (.int .i64 k2) ∧ wx.cell? ⟨w7.heap.size, 1, none⟩ = some (.string (S n2)) ∧ wx.cell? ⟨w7.heap.size, 2, none⟩ = some (.string (S p2)) ∧ wx.cell? ⟨w7.heap.size, 3, none⟩ = some (.string (S u2)) ∧ wx.cell? ⟨w7.heap.size, 4, none⟩ = some (.string (S sv2)) ∧ wx.cell? ⟨w7.heap.size, 5, none⟩ = some (.string (S l2)) ∧ wx.cell? ⟨w7.heap.size, 6, none⟩ = some (.int .i64 m2) ∧ wx.cell? ⟨w7.heap.size, 7, none⟩ = some (.int .i64 d2') ∧ wx.cell? ⟨w7.heap.size, 8, none⟩ = some (.int .i64 x2) ∧ wx.cell? ⟨w7.heap.size, 9, none⟩ = some (.bool f2) ∧ wx.cell? ⟨w8.heap.size, 0, none⟩ = some (.int .i64 k2) ∧ wx.cell? ⟨w8.heap.size, 1, none⟩ = some (.string (S n2)) ∧ wx.cell? ⟨w8.heap.size, 2, none⟩ = some (.string (S p2)) ∧ wx.cell? ⟨w8.heap.size, 3, none⟩ = some (.string (S u2)) ∧ wx.cell? ⟨w8.heap.size, 4, none⟩ = some (.string (S sv2)) ∧ wx.cell? ⟨w8.heap.size, 5, none⟩ = some (.string (S l2)) ∧ wx.cell? ⟨w8.heap.size, 6, none⟩ = some (.int .i64 m2) ∧ wx.cell? ⟨w8.heap.size, 7, none⟩ = some (.int .i64 d2') ∧ wx.cell? ⟨w8.heap.size, 8, none⟩ = some (.int .i64 x2) ∧ wx.cell? ⟨w8.heap.size, 9, none⟩ = some (.bool f2))
    (first
      | exact HC3.out _ (Below.refl _ _)
      | exact HC3.out _ hqa
      | exact HC3.out _ hqb
      | exact HC3.out _ hqd)
    (first
      | (go_at_call 14; refine (hR _ hEd).mono ?_; rintro e wa ⟨rfl, hqa⟩)
      | (go_at_call 15; refine (hR2 _).mono ?_; rintro e wb ⟨rfl, hq⟩; have hqb := hqa.trans (hq.mono hqa.size); clear hq)
      | (go_at_call 16; refine (hC _).mono ?_; rintro e wc ⟨rfl, rfl⟩)
      | (go_at_call 17; refine (hC2 _).mono ?_; rintro e wd ⟨rfl, hq2⟩; have hqd := hqb.trans (hq2.mono hqb.size); clear hq2))
  go_wp2_with fail
  first
    | (go_ret; exact ⟨ret_bool (by simp), HZD.out.trans (hqd.mono HZD.out.size)⟩)
    | (go_ret; exact ⟨rfl, HZD.out.trans (hqd.mono HZD.out.size)⟩)
end Go.Proofs.YtgbcbihfaiiolaaDoor
