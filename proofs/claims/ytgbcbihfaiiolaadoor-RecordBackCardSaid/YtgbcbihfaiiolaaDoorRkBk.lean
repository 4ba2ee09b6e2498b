/- The call RecordBack answers true, for any record, any name and bytes. -/
import Derived.Test.YtgbcbihfaiiolaaDoorRkG
namespace Go.Proofs.YtgbcbihfaiiolaaDoor
set_option maxRecDepth 8000
open Go.RowKit

set_option maxHeartbeats 3200000 in
theorem recordBack_any (r : Rk.R) (name s : List UInt8) (w : World) (hE : EnvT w) :
    Calls Tryd.prog 4 #[recV r, .string (S name), .string (S s)] w (AwakePost w) := by
  obtain ⟨w1, hw1⟩ : ∃ w1, w1 = w.alloc (.cells (recCs r) 23) := ⟨_, rfl⟩
  have s1 : w1.heap.size = w.heap.size + 1 := by rw [hw1]; simp
  have b1 : Below w.heap.size w w1 := by rw [hw1]; exact (Below.refl _ _).alloc (Nat.le_refl _) _
  have HK : Hid (∀ w', Below w1.heap.size w1 w' → RecAt w' w.heap.size r) := by
    rw [s1, hw1]
    exact recAt_alloc w r
  have hEz := hE.next b1
  have hA := awake13_any w1 hEz
  have HZ := Lib.hid b1
  have hF := fun w' => recFew_any r w'
  have HFW : Hid (Rk.few r = true → Rk.Few r) := Lib.hid Rk.few_of
  generalize Rk.few r = fw at hF HFW
  obtain ⟨k, n, p, u, sv, l, m, d, x, f⟩ := r
  have hw1' := hw1
  unfold recCs at hw1'
  unfold recV at hF ⊢
  dsimp only at hw1' hF ⊢
  clear s1 b1 hw1
  have hns : ((S name).size : Int) = (name.length : Int) := rfl
  have hss : ((S s).size : Int) = (s.length : Int) := rfl
  go_enter Tryd.func4, Tryd.ntmps4
  go_upto_region 1 with fail
  rw [← hw1']
  clear hw1'
  go_upto_region 3 with (first
    | (go_at_call 8; refine hA.mono ?_; rintro e w3 ⟨rfl, hq⟩; have hz := hq; have hEz3 := hEz.next hq; obtain ⟨c0, c1, c2, c3, c4, c5, c6, c7, c8, c9⟩ := HK.out _ hz; clear hA)
    | (go_at_call 9; refine (hF _).mono ?_; rintro e w4 ⟨rfl, hq⟩; have hz4 := hz.trans (hq.mono hz.size); have hEz4 := hEz3.next hq; clear c0 c1 c2 c3 c4 c5 c6 c7 c8 c9 hq hz hEz3 hF; obtain ⟨c0, c1, c2, c3, c4, c5, c6, c7, c8, c9⟩ := HK.out _ hz4))
  have HZ4 := Lib.hid (HZ.out.trans (hz4.mono HZ.out.size))
  have HS4 := Lib.hid hz4
  clear hz4 hq
  by_cases hfew : fw = true ∧ name.length ≤ 60 ∧ s.length ≤ 400
  case neg =>
    have hthree : fw = false ∨ (fw = true ∧ (60 : Int) < (name.length : Int)) ∨ (fw = true ∧ ¬ (60 : Int) < (name.length : Int) ∧ (400 : Int) < (s.length : Int)) := by
      cases fw with
      | false => exact .inl rfl
      | true =>
        by_cases h : name.length ≤ 60
        · refine .inr (.inr ⟨rfl, by omega, ?_⟩)
          have : ¬ s.length ≤ 400 := fun h2 => hfew ⟨rfl, h, h2⟩
          omega
        · exact .inr (.inl ⟨rfl, by omega⟩)
    clear hfew c0 c1 c2 c3 c4 c5 c6 c7 c8 c9
    rcases hthree with rfl | ⟨rfl, h1⟩ | ⟨rfl, h1, h2⟩ <;>
      (go_wp2_with fail
       go_ret
       exact ⟨rfl, HZ4.out⟩)
  case pos =>
  obtain ⟨rfl, hnl, hsl⟩ := hfew
  have hnI : ¬ (60 : Int) < (name.length : Int) := by omega
  have hsI : ¬ (400 : Int) < (s.length : Int) := by omega
  have hfw := HFW.out rfl
  have hn := hfw.nm
  have hp := hfw.pa
  dsimp only at hn hp
  clear HFW hfw
  have hN := fun w' h => recEncode_any ⟨k, n, p, u, sv, l, m, d, x, f⟩ (by show n.length ≤ _; omega) (by show p.length ≤ _; omega) w' h
  have hR := fun w' h => recRight_any ⟨k, n, p, u, sv, l, m, d, x, f⟩ (by show n.length ≤ _; omega) (by show p.length ≤ _; omega) w' h
  have HD : Hid (∀ w', EnvT w' → Calls Tryd.prog 12 #[.string (S name), .string (S s)] w' fun e w'' => e = .returned (decV name s) ∧ Below w'.heap.size w' w'') := Lib.hid fun w' h => recDecode_any name s (by omega) (by omega) w' h
  unfold encV at hN
  cases hr : Rk.right ⟨k, n, p, u, sv, l, m, d, x, f⟩
  case' false =>
    rw [hr] at hN hR
    rw [if_neg (by simp)] at hN
    unfold recV at hN hR
    dsimp only at hN hR
    clear hr
    go_upto_region 13 with (first
      | (go_at_call 10; refine (hN _ hEz4).mono ?_; rintro e w5 ⟨rfl, hq⟩; have hz5 := HS4.out.trans (hq.mono HS4.out.size); have hEz5 := hEz4.next hq; clear c0 c1 c2 c3 c4 c5 c6 c7 c8 c9 hq hN; obtain ⟨c0, c1, c2, c3, c4, c5, c6, c7, c8, c9⟩ := HK.out _ hz5)
      | (go_at_call 14; refine (hR _ hEz5).mono ?_; rintro e wT ⟨rfl, hq⟩; have hzT := hz5.trans (hq.mono hz5.size); have hET := hEz5.next hq; clear c0 c1 c2 c3 c4 c5 c6 c7 c8 c9 hq hR hz5 hEz5))
  case' true =>
    have hok := (Rk.right_iff _).1 hr
    rw [hr] at hN hR
    rw [if_pos rfl] at hN
    have hDn := fun w' h => recDecode_any n (Rk.enc ⟨k, n, p, u, sv, l, m, d, x, f⟩) (by omega) (by have := hok.enc_le; omega) w' h
    have hdv : decV n (Rk.enc ⟨k, n, p, u, sv, l, m, d, x, f⟩) = .tuple #[recV ⟨k, n, p, u, sv, l, m, d, x, f⟩, .int .i64 0] := by
      unfold decV
      have := Rk.dec_enc hok
      dsimp only at this
      rw [this]
    rw [hdv] at hDn
    have hle := hok.enc_le
    generalize Rk.enc ⟨k, n, p, u, sv, l, m, d, x, f⟩ = y at hN hDn hle hdv
    have hys : ((S y).size : Int) = (y.length : Int) := rfl
    unfold recV at hN hR hDn
    dsimp only at hN hR hDn
    clear hr hdv hok
    go_upto_region 11 with (first
      | (go_at_call 12; refine (hDn _ hEz6).mono ?_; rintro e w7 ⟨rfl, hq⟩; have hz7 := hz6.trans (hq.mono hz6.size); have hEz7 := hEz6.next hq; clear c0 c1 c2 c3 c4 c5 c6 c7 c8 c9 hq hDn hz6 hEz6)
      | (go_at_call 14; refine (hR _ hEz5).mono ?_; rintro e w6 ⟨rfl, hq⟩; have hz6 := hz5.trans (hq.mono hz5.size); have hEz6 := hEz5.next hq; clear c0 c1 c2 c3 c4 c5 c6 c7 c8 c9 hq hR hz5 hEz5; obtain ⟨c0, c1, c2, c3, c4, c5, c6, c7, c8, c9⟩ := HK.out _ hz6)
      | (go_at_call 10; refine (hN _ hEz4).mono ?_; rintro e w5 ⟨rfl, hq⟩; have hz5 := HS4.out.trans (hq.mono HS4.out.size); have hEz5 := hEz4.next hq; clear c0 c1 c2 c3 c4 c5 c6 c7 c8 c9 hq hN; obtain ⟨c0, c1, c2, c3, c4, c5, c6, c7, c8, c9⟩ := HK.out _ hz5))
    have hbt : Below w7.heap.size w7 (w7.alloc (.cells (recCs ⟨k, n, p, u, sv, l, m, d, x, f⟩) 23)) := (Below.refl _ _).alloc (Nat.le_refl _) _
    have hkt := heap_alloc_new w7 (.cells (recCs ⟨k, n, p, u, sv, l, m, d, x, f⟩) 23)
    change Code.wp _ _ _ _ (w7.alloc (.cells (recCs ⟨k, n, p, u, sv, l, m, d, x, f⟩) 23))
    generalize w7.alloc (.cells (recCs ⟨k, n, p, u, sv, l, m, d, x, f⟩) 23) = wT at hbt hkt ⊢
    have hzT := hz7.trans (hbt.mono hz7.size)
    have hET := hEz7.next hbt
    obtain ⟨c0, c1, c2, c3, c4, c5, c6, c7, c8, c9⟩ := HK.out _ hzT
    obtain ⟨d0, d1, d2, d3, d4, d5, d6, d7, d8, d9⟩ := recAt_blk hkt
    have hyI : ¬ (300 : Int) < (y.length : Int) := by omega
    clear hkt hbt hz7 hEz7
    go_upto_region 13 with fail
    clear c0 c1 c2 c3 c4 c5 c6 c7 c8 c9 d0 d1 d2 d3 d4 d5 d6 d7 d8 d9
  all_goals
    clear HK HS4 hEz4 HZ4
    have HZT := Lib.hid (HZ.out.trans (hzT.mono HZ.out.size))
    have hDs := HD.out wT hET
    unfold decV at hDs
    cases hdec : Rk.dec name s
    case none =>
      rw [hdec] at hDs
      unfold recV noRec at hDs
      dsimp only at hDs
      go_upto_region 14 with (go_at_call 12; refine hDs.mono ?_; rintro e w8 ⟨rfl, hq⟩)
      have HZ8 := Lib.hid (HZT.out.trans (hq.mono HZT.out.size))
      have hbt : Below w8.heap.size w8 (w8.alloc (.cells (recCs noRec) 23)) := (Below.refl _ _).alloc (Nat.le_refl _) _
      have hkt := heap_alloc_new w8 (.cells (recCs noRec) 23)
      change Code.wp _ _ _ _ (w8.alloc (.cells (recCs noRec) 23))
      generalize w8.alloc (.cells (recCs noRec) 23) = w9 at hbt hkt ⊢
      have HZ9 := Lib.hid (HZ8.out.trans (hbt.mono HZ8.out.size))
      obtain ⟨d0, d1, d2, d3, d4, d5, d6, d7, d8, d9⟩ := recAt_blk hkt
      unfold noRec at d0 d1 d2 d3 d4 d5 d6 d7 d8 d9
      dsimp only at d0 d1 d2 d3 d4 d5 d6 d7 d8 d9
      clear hkt hbt hq hDs hdec
      have hS0 : (S ([] : List UInt8)).toList = [] := S_list []
      go_wp2_with fail
      go_ret
      exact ⟨ret_bool (by first | rfl | simp), HZ9.out⟩
    case some r2 =>
      obtain ⟨hok2, henc2, hname2⟩ := Rk.dec_some hdec
      rw [hdec] at hDs
      have hp2 := hok2.parent
      have hN2 := fun w' h => recEncode_any r2 (by rw [hname2]; omega) (by omega) w' h
      unfold encV at hN2
      rw [(Rk.right_iff r2).2 hok2, if_pos rfl, henc2] at hN2
      obtain ⟨k2, n2, p2, u2, sv2, l2, m2, d2', x2, f2⟩ := r2
      dsimp only at hname2
      subst hname2
      unfold recV at hDs hN2
      dsimp only at hDs hN2
      clear hok2 henc2 hdec hp2
      go_upto_region 14 with (go_at_call 12; refine hDs.mono ?_; rintro e w8 ⟨rfl, hq⟩)
      have HZ8 := Lib.hid (HZT.out.trans (hq.mono HZT.out.size))
      have hE8 := hET.next hq
      have hbt : Below w8.heap.size w8 (w8.alloc (.cells (recCs ⟨k2, n2, p2, u2, sv2, l2, m2, d2', x2, f2⟩) 23)) := (Below.refl _ _).alloc (Nat.le_refl _) _
      have hkt := heap_alloc_new w8 (.cells (recCs ⟨k2, n2, p2, u2, sv2, l2, m2, d2', x2, f2⟩) 23)
      change Code.wp _ _ _ _ (w8.alloc (.cells (recCs ⟨k2, n2, p2, u2, sv2, l2, m2, d2', x2, f2⟩) 23))
      generalize w8.alloc (.cells (recCs ⟨k2, n2, p2, u2, sv2, l2, m2, d2', x2, f2⟩) 23) = w9 at hbt hkt ⊢
      have HZ9 := Lib.hid (HZ8.out.trans (hbt.mono HZ8.out.size))
      have hE9 := hE8.next hbt
      obtain ⟨d0, d1, d2, d3, d4, d5, d6, d7, d8, d9⟩ := recAt_blk hkt
      have HKT := Lib.hid hkt
      clear hkt hbt hq hDs hE8
      go_wp2_with (go_at_call 10; refine (hN2 _ hE9).mono ?_; rintro e wA ⟨rfl, hq⟩; clear d0 d1 d2 d3 d4 d5 d6 d7 d8 d9; obtain ⟨-, d1, -, -, -, -, -, -, -, -⟩ := recAt_blk ((hq.block _ (lt_of_blk HKT.out)).trans HKT.out))
      go_ret
      exact ⟨ret_bool (by first | rfl | simp), HZ9.out.trans (hq.mono HZ9.out.size)⟩
end Go.Proofs.YtgbcbihfaiiolaaDoor
