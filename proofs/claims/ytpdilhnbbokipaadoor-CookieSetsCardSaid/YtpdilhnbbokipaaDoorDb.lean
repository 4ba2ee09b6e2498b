/- What the document's Read answers, for any text of at most 2^20 bytes. -/
import Derived.Test.YtpdilhnbbokipaaDoorDa
import Derived.Deep.DeepCutAuto
namespace Go.Proofs.YtpdilhnbbokipaaDoor
set_option maxRecDepth 8000
open Go.RowKit

theorem GInv.zero {w w' : World} {r g : Nat} {c : Ck.C} (h : GInv w r g c w') : (w'.cell? ⟨r, 0, none⟩ = some (.string ⟨#[]⟩) ∧ w'.cell? ⟨r, 1, none⟩ = some (.string ⟨#[]⟩) ∧ w'.cell? ⟨r, 2, none⟩ = some (.string ⟨#[]⟩) ∧ w'.cell? ⟨r, 3, none⟩ = some (.int .i64 0) ∧ w'.cell? ⟨r, 4, none⟩ = some (.bool false) ∧ w'.cell? ⟨r, 5, none⟩ = some (.bool false)) ∧
    w'.frozen? ⟨r, 0, none⟩ = false ∧ w'.frozen? ⟨r, 1, none⟩ = false ∧ w'.frozen? ⟨r, 2, none⟩ = false ∧ w'.frozen? ⟨r, 3, none⟩ = false ∧ w'.frozen? ⟨r, 4, none⟩ = false ∧ w'.frozen? ⟨r, 5, none⟩ = false :=
  ⟨h.res.all, h.res.frozen 0, h.res.frozen 1, h.res.frozen 2, h.res.frozen 3, h.res.frozen 4, h.res.frozen 5⟩
theorem GInv.filled {w w' : World} {r g : Nat} {c : Ck.C} (h : GInv w r g c w') (hr : w.heap.size ≤ r) (d : Ck.C) :
    Below w.heap.size w ((((((w'.setCell ⟨r, 0, none⟩ (.string (S d.name))).setCell ⟨r, 1, none⟩ (.string (S d.val))).setCell ⟨r, 2, none⟩ (.string (S d.path))).setCell ⟨r, 3, none⟩ (.int .i64 d.age)).setCell ⟨r, 4, none⟩ (.bool d.sec)).setCell ⟨r, 5, none⟩ (.bool d.http)) :=
  (((((h.below.setCell (p := ⟨r, 0, none⟩) hr _).setCell (p := ⟨r, 1, none⟩) hr _).setCell (p := ⟨r, 2, none⟩) hr _).setCell (p := ⟨r, 3, none⟩) hr _).setCell (p := ⟨r, 4, none⟩) hr _).setCell (p := ⟨r, 5, none⟩) hr _

set_option maxHeartbeats 6400000 in
theorem refRead_any (s : List UInt8) (w : World) (hs : s.length ≤ 1048576) :
    Calls Tryd.prog 20 #[.string (S s)] w fun e w' => e = readRes (Ck.refRead s) ∧ Below w.heap.size w w' := by
  have hsz : (S s).size ≤ 1048576 := hs
  have hrg : w.heap.size ≠ w.heap.size + 1 := by omega
  have hgg : w.heap.size ≤ w.heap.size + 1 := by omega
  go_enter Tryd.func20, Tryd.ntmps20
  go_upto_region 2 with fail
  have hG : GInv w w.heap.size (w.heap.size + 1) ⟨[], [], [], -1, false, false⟩ ((w.alloc (.cells #[.string ⟨#[]⟩, .string ⟨#[]⟩, .string ⟨#[]⟩, .int .i64 0, .bool false, .bool false] 32)).alloc (.cells #[.string ⟨#[]⟩, .string ⟨#[]⟩, .string ⟨#[]⟩, .int .i64 (-1), .bool false, .bool false] 32)) := by
    refine ⟨(Blk6.new w zeroC).below ((Below.refl _ _).alloc (Nat.le_refl _) _) (by simp), ?_, ((Below.refl _ _).alloc (Nat.le_refl _) _).alloc (by simp) _⟩
    have := Blk6.new (w.alloc (.cells #[.string ⟨#[]⟩, .string ⟨#[]⟩, .string ⟨#[]⟩, .int .i64 0, .bool false, .bool false] 32)) ⟨[], [], [], -1, false, false⟩
    rw [World.size_alloc] at this
    exact this
  generalize ((w.alloc (.cells #[.string ⟨#[]⟩, .string ⟨#[]⟩, .string ⟨#[]⟩, .int .i64 0, .bool false, .bool false] 32)).alloc (.cells #[.string ⟨#[]⟩, .string ⟨#[]⟩, .string ⟨#[]⟩, .int .i64 (-1), .bool false, .bool false] 32)) = w1 at hG ⊢
  go_wp2
  go_loop [5] (fun i => ∃ k : Nat, k ≤ (S s).size ∧ i = .int .i64 k ∧ ∀ j (hj : j < (S s).size), j < k → (S s)[j] ≠ 61) (fun i => (S s).size - (intOf i).toNat)
  case atStart => exact ⟨0, Nat.zero_le _, rfl, fun j _ hj => absurd hj (by omega)⟩
  case round =>
    obtain ⟨k, hk, rfl, hno⟩ := hrel
    have HNO := Lib.hid hno
    clear hno
    by_cases hlt : k < (S s).size
    · by_cases hc : (S s)[k] = 61
      · have e0 : (((S s)[k].toNat : Int) != 61) = false := by rw [hc]; rfl
        have e1 : ((k : Int) == ((S s).size : Int)) = false := beq_eq_false_iff_ne.2 (by omega)
        have HCUT := Lib.hid (show Pct.cutAt 61 s = (s.take k, s.drop (k + 1), true) from cut_at (k := k) hlt hc fun m hm hmk => HNO.out m hm hmk)
        have hx1 : (S s).extract 0 k = S (s.take k) := extract_piece (S s) 0 k
        have hln : (s.take k).length ≤ 1048576 := Nat.le_trans (List.length_take_le' _ _) hs
        obtain ⟨n, hn⟩ : ∃ n, n = s.take k := ⟨_, rfl⟩
        rw [← hn] at HCUT hx1 hln
        clear hn hc HNO
        obtain ⟨d0, d1, d2, d3, d4, d5⟩ := hG.cur.all
        have x0 := hG.cur.frozen 0
        have k1 : (k : Int) + 1 ≤ ((S s).size : Int) := by omega
        go_upto_region 8 with fail
        have hG := hG.set hrg hgg 0 _ _ (hG.cur.set0 n)
        generalize (w1.setCell ⟨w.heap.size + 1, 0, none⟩ (.string (S n))) = w2 at hG ⊢
        clear d0 d1 d2 d3 d4 d5 x0 e0 e1 hx1
        go_wp2
        go_loop [6] (fun i => ∃ q : Nat, k + 1 ≤ q ∧ q ≤ (S s).size ∧ i = .int .i64 q ∧ ∀ j (hj : j < (S s).size), k + 1 ≤ j → j < q → (S s)[j] ≠ 59) (fun i => (S s).size - (intOf i).toNat)
        case atStart => exact ⟨k + 1, Nat.le_refl _, hlt, by go_num, fun j _ h1 h2 => absurd h1 (by omega)⟩
        case round =>
          obtain ⟨q, hkq, hq, rfl, hno⟩ := hrel
          have HNO := Lib.hid hno
          clear hno
          obtain ⟨bq, hbq⟩ : ∃ bq : Bool, bq = decide (∃ h : q < (S s).size, (S s)[q] ≠ 59) := ⟨_, rfl⟩
          have HBQ := Lib.hid hbq
          clear hbq
          go_upto_region 9 with fail
          go_cut [42] (fun t wx => t = .bool bq ∧ wx = w2)
          case first =>
            by_cases hqs : q < (S s).size
            · by_cases h59 : (S s)[q] = 59
              · have e0 : (((S s)[q].toNat : Int) != 59) = false := by rw [h59]; rfl
                have hb0 : bq = false := by rw [HBQ.out]; exact decide_eq_false (fun ⟨_, h⟩ => h h59)
                subst hb0
                clear h59
                go_wp2
                go_meet
                exact ⟨rfl, rfl⟩
              · have e0 : (((S s)[q].toNat : Int) != 59) = true := by
                  have : (S s)[q].toNat ≠ 59 := fun h => h59 (Pct.u8_eq h)
                  simp; omega
                have hb0 : bq = true := by rw [HBQ.out]; exact decide_eq_true ⟨hqs, h59⟩
                subst hb0
                clear h59
                go_wp2
                go_meet
                exact ⟨rfl, rfl⟩
            · have hb0 : bq = false := by rw [HBQ.out]; exact decide_eq_false (fun ⟨h, _⟩ => hqs h)
              subst hb0
              go_wp2
              go_meet
              exact ⟨rfl, rfl⟩
          case rest =>
            obtain ⟨hc1, hc2⟩ := hcut
            subst hc1
            subst hc2
            cases bq with
            | true =>
              obtain ⟨hqs, h59⟩ := of_decide_eq_true HBQ.out.symm
              have HC := Lib.hid h59
              clear h59 HBQ
              go_wp2
              go_round
              case rel =>
                refine ⟨q + 1, by omega, by omega, by go_num, fun m hm h1 h2 => ?_⟩
                by_cases e : m = q
                · subst e; exact HC.out
                · exact HNO.out m hm h1 (by omega)
              case measure => simp [intOf]; omega
            | false =>
              have hend : q = (S s).size ∨ ∃ h : q < (S s).size, (S s)[q] = 59 := by
                have hnot := of_decide_eq_false HBQ.out.symm
                by_cases hqs : q < (S s).size
                · exact .inr ⟨hqs, Classical.not_not.1 fun h => hnot ⟨hqs, h⟩⟩
                · exact .inl (by omega)
              clear HBQ
              have htw := Ck.tw_off (s := s) (o := k + 1) (qq := q) hkq hq (fun m hm h1 h2 => HNO.out m hm h1 h2) hend
              have hx2 : (S s).extract (k + 1) q = S ((s.drop (k + 1)).take (q - (k + 1))) := extract_piece (S s) (k + 1) q
              have hx3 : (S s).extract q (S s).size = S (s.drop q) := extract_rest (S s) q
              rw [← htw.1] at hx2
              rw [← htw.2] at hx3
              obtain ⟨b, hb⟩ : ∃ b, b = s.drop (k + 1) := ⟨_, rfl⟩
              have hbl : b.length ≤ 1048576 := by rw [hb, List.length_drop]; omega
              rw [← hb] at HCUT hx2 hx3
              have hlv := Nat.le_trans (Ck.tw_len b) hbl
              have hlr := Nat.le_trans (Ck.dw_len b) hbl
              have HP0 := Lib.hid (show ∀ f, Ck.pathM.isPrefixOf (Ck.dw b) = f → (f = false → Ck.refRead s = none) ∧ (f = true → Ck.refRead s = Ck.refMid n (Ck.tw b) ((Ck.dw b).drop 7)) from fun f hf => ⟨fun h => Ck.refRead_no2 HCUT.out (by rw [hf, h]), fun h => Ck.refRead_mid HCUT.out (by rw [hf, h])⟩)
              generalize Ck.tw b = v at hx2 hlv HP0
              generalize Ck.dw b = rest at hx3 hlr HP0
              clear hb hbl htw HNO hend HCUT
              have q0 : (0 : Int) ≤ (q : Int) := by omega
              have q1 : (q : Int) ≤ ((S s).size : Int) := by omega
              have q2 : (k : Int) + 1 ≤ (q : Int) := by omega
              obtain ⟨d0, d1, d2, d3, d4, d5⟩ := hG.cur.all
              have x0 := hG.cur.frozen 1
              go_upto_region 13 with fail
              have hG := hG.set hrg hgg 1 _ _ (hG.cur.set1 v)
              generalize (wc.setCell ⟨w.heap.size + 1, 1, none⟩ (.string (S v))) = w3 at hG ⊢
              clear d0 d1 d2 d3 d4 d5 x0 q0 q1 q2 hx2 hx3
              have hS := S_list
              rcases mark_at Ck.pathM rest 7 rfl with ⟨hp, hz⟩ | ⟨hz, hp⟩
              · have HF := Lib.hid ((HP0.out _ hp).1 rfl)
                clear hp HP0
                obtain ⟨⟨z0, z1, z2, z3, z4, z5⟩, y0, y1, y2, y3, y4, y5⟩ := hG.zero
                have HB := Lib.hid (hG.filled (Nat.le_refl _) zeroC)
                clear hG
                go_wp2
                exact bodyPost_ret (v := .tuple #[.agg #[.string ⟨#[]⟩, .string ⟨#[]⟩, .string ⟨#[]⟩, .int .i64 0, .bool false, .bool false], .int .i64 10]) (by simp [results, Tryd.results20, go_sem, z0, z1, z2, z3, z4, z5]) rfl ⟨readRes_none HF.out, HB.out⟩
              · have hx4 : (S rest).extract 0 7 = S (rest.take 7) := extract_piece (S rest) 0 7
                have hx5 : (S rest).extract 7 (S rest).size = S (rest.drop 7) := extract_rest (S rest) 7
                generalize hy7 : rest.take 7 = y7 at hp hx4
                cases hb7 : (y7 == Ck.pathM) with
                | false =>
                  rw [hb7] at hp
                  have HF := Lib.hid ((HP0.out _ hp).1 rfl)
                  have e1 : (y7 == [59, 32, 80, 97, 116, 104, 61]) = false := hb7
                  have e2 : (y7 != [59, 32, 80, 97, 116, 104, 61]) = true := by unfold bne; rw [e1]; rfl
                  clear hp HP0 hb7 hy7
                  obtain ⟨⟨z0, z1, z2, z3, z4, z5⟩, y0, y1, y2, y3, y4, y5⟩ := hG.zero
                  have HB := Lib.hid (hG.filled (Nat.le_refl _) zeroC)
                  clear hG
                  go_wp2
                  exact bodyPost_ret (v := .tuple #[.agg #[.string ⟨#[]⟩, .string ⟨#[]⟩, .string ⟨#[]⟩, .int .i64 0, .bool false, .bool false], .int .i64 10]) (by simp [results, Tryd.results20, go_sem, z0, z1, z2, z3, z4, z5]) rfl ⟨readRes_none HF.out, HB.out⟩
                | true =>
                  rw [hb7] at hp
                  have HM := Lib.hid ((HP0.out _ hp).2 rfl)
                  have e1 : (y7 == [59, 32, 80, 97, 116, 104, 61]) = true := hb7
                  have e2 : (y7 != [59, 32, 80, 97, 116, 104, 61]) = false := by unfold bne; rw [e1]; rfl
                  have hr2l : (rest.drop 7).length ≤ 1048576 := by rw [List.length_drop]; omega
                  generalize rest.drop 7 = r2 at hx5 HM hr2l
                  have hr2z : (S r2).size ≤ 1048576 := hr2l
                  clear hp HP0 hb7 hy7
                  go_upto_region 16 with fail
                  clear e1 e2 hx4 hx5 hz
                  clear hS
                  go_wp2
                  go_loop [6] (fun i => ∃ q : Nat, 0 ≤ q ∧ q ≤ (S r2).size ∧ i = .int .i64 q ∧ ∀ j (hj : j < (S r2).size), 0 ≤ j → j < q → (S r2)[j] ≠ 59) (fun i => (S r2).size - (intOf i).toNat)
                  case atStart => exact ⟨0, Nat.le_refl _, Nat.zero_le _, by go_num, fun j _ h1 h2 => absurd h1 (by omega)⟩
                  case round =>
                    obtain ⟨q, hkq, hq, rfl, hno⟩ := hrel
                    have HNO := Lib.hid hno
                    clear hno
                    obtain ⟨bq, hbq⟩ : ∃ bq : Bool, bq = decide (∃ h : q < (S r2).size, (S r2)[q] ≠ 59) := ⟨_, rfl⟩
                    have HBQ := Lib.hid hbq
                    clear hbq
                    go_upto_region 17 with fail
                    go_cut [74] (fun t wx => t = .bool bq ∧ wx = w3)
                    case first =>
                      by_cases hqs : q < (S r2).size
                      · by_cases h59 : (S r2)[q] = 59
                        · have e0 : (((S r2)[q].toNat : Int) != 59) = false := by rw [h59]; rfl
                          have hb0 : bq = false := by rw [HBQ.out]; exact decide_eq_false (fun ⟨_, h⟩ => h h59)
                          subst hb0
                          clear h59
                          go_wp2
                          go_meet
                          exact ⟨rfl, rfl⟩
                        · have e0 : (((S r2)[q].toNat : Int) != 59) = true := by
                            have : (S r2)[q].toNat ≠ 59 := fun h => h59 (Pct.u8_eq h)
                            simp; omega
                          have hb0 : bq = true := by rw [HBQ.out]; exact decide_eq_true ⟨hqs, h59⟩
                          subst hb0
                          clear h59
                          go_wp2
                          go_meet
                          exact ⟨rfl, rfl⟩
                      · have hb0 : bq = false := by rw [HBQ.out]; exact decide_eq_false (fun ⟨h, _⟩ => hqs h)
                        subst hb0
                        go_wp2
                        go_meet
                        exact ⟨rfl, rfl⟩
                    case rest =>
                      obtain ⟨hc1, hc2⟩ := hcut
                      subst hc1
                      subst hc2
                      cases bq with
                      | true =>
                        obtain ⟨hqs, h59⟩ := of_decide_eq_true HBQ.out.symm
                        have HC := Lib.hid h59
                        clear h59 HBQ
                        go_wp2
                        go_round
                        case rel =>
                          refine ⟨q + 1, by omega, by omega, by go_num, fun m hm h1 h2 => ?_⟩
                          by_cases e : m = q
                          · subst e; exact HC.out
                          · exact HNO.out m hm h1 (by omega)
                        case measure => simp [intOf]; omega
                      | false =>
                        have hend : q = (S r2).size ∨ ∃ h : q < (S r2).size, (S r2)[q] = 59 := by
                          have hnot := of_decide_eq_false HBQ.out.symm
                          by_cases hqs : q < (S r2).size
                          · exact .inr ⟨hqs, Classical.not_not.1 fun h => hnot ⟨hqs, h⟩⟩
                          · exact .inl (by omega)
                        clear HBQ
                        have htw := Ck.tw_off (s := r2) (o := 0) (qq := q) hkq hq (fun m hm h1 h2 => HNO.out m hm h1 h2) hend
                        rw [List.drop_zero, Nat.sub_zero] at htw
                        have hx2 : (S r2).extract 0 q = S (r2.take q) := extract_piece (S r2) 0 q
                        have hx3 : (S r2).extract q (S r2).size = S (r2.drop q) := extract_rest (S r2) q
                        rw [← htw.1] at hx2
                        rw [← htw.2] at hx3
                        have hlp := Nat.le_trans (Ck.tw_len r2) hr2l
                        have hlr3 := Nat.le_trans (Ck.dw_len r2) hr2l
                        have HP1 := Lib.hid (show ∀ f, Ck.ageM.isPrefixOf (Ck.dw r2) = f → (f = false → Ck.refRead s = Ck.refTail n v (Ck.tw r2) (-1) (Ck.dw r2)) ∧ (f = true → Ck.refRead s = if Ck.numberI (Ck.tw ((Ck.dw r2).drop 10)) < 0 then none else Ck.refTail n v (Ck.tw r2) (Ck.numberI (Ck.tw ((Ck.dw r2).drop 10))) (Ck.dw ((Ck.dw r2).drop 10))) from fun f hf => ⟨fun h => HM.out.trans (Ck.refMid_no (by rw [hf, h])), fun h => HM.out.trans (Ck.refMid_age (by rw [hf, h]))⟩)
                        generalize Ck.tw r2 = p at hx2 hlp HP1
                        generalize Ck.dw r2 = r3 at hx3 hlr3 HP1
                        clear htw HNO hend HM
                        have q0 : (0 : Int) ≤ (q : Int) := by omega
                        have q1 : (q : Int) ≤ ((S r2).size : Int) := by omega
                        obtain ⟨d0, d1, d2, d3, d4, d5⟩ := hG.cur.all
                        have x0 := hG.cur.frozen 2
                        go_upto_region 21 with fail
                        have hG := hG.set hrg hgg 2 _ _ (hG.cur.set2 p)
                        generalize (wc.setCell ⟨w.heap.size + 1, 2, none⟩ (.string (S p))) = w4 at hG ⊢
                        clear d0 d1 d2 d3 d4 d5 x0 q0 q1 hx2 hx3
                        obtain ⟨ba, hba⟩ : ∃ ba : Bool, Ck.ageM.isPrefixOf r3 = ba := ⟨_, rfl⟩
                        have HBA := Lib.hid hba
                        clear hba
                        go_cut [91] (fun t wx => t = .bool ba ∧ wx = w4)
                        case first =>
                          have hS := S_list
                          rcases mark_at Ck.ageM r3 10 rfl with ⟨hp, hz⟩ | ⟨hz, hp⟩
                          · obtain rfl : ba = false := by rw [← HBA.out]; exact hp
                            clear hp
                            go_wp2
                            go_meet
                            exact ⟨rfl, rfl⟩
                          · have hx4 : (S r3).extract 0 10 = S (r3.take 10) := extract_piece (S r3) 0 10
                            generalize r3.take 10 = y10 at hp hx4
                            have e1 : (y10 == [59, 32, 77, 97, 120, 45, 65, 103, 101, 61]) = ba := by rw [← HBA.out]; exact hp.symm
                            clear hp
                            cases ba with
                            | true =>
                              go_wp2
                              go_meet
                              exact ⟨rfl, rfl⟩
                            | false =>
                              go_wp2
                              go_meet
                              exact ⟨rfl, rfl⟩
                        case rest =>
                          obtain ⟨hc1, hc2⟩ := hcut
                          subst hc1
                          subst hc2
                          have HPA := Lib.hid ((HP1.out _ HBA.out).1)
                          have HPB := Lib.hid ((HP1.out _ HBA.out).2)
                          clear HP1
                          go_upto_if 91 with fail
                          go_cut [6, 7] (fun _ b wx => ∃ (r4 : List UInt8) (ag : Int), b = .string (S r4) ∧ r4.length ≤ 1048576 ∧ Ck.refRead s = Ck.refTail n v p ag r4 ∧ GInv w w.heap.size (w.heap.size + 1) ⟨n, v, p, ag, false, false⟩ wx)
                          case first =>
                            cases ba with
                            | false =>
                              have HQ := Lib.hid (HPA.out rfl)
                              clear HPA HPB HBA
                              go_wp2
                              go_meet
                              exact ⟨r3, -1, rfl, hlr3, HQ.out, hG⟩
                            | true =>
                              have HQ := Lib.hid (HPB.out rfl)
                              clear HPA HPB
                              have hz10 : 10 ≤ (S r3).size := by
                                rcases mark_at Ck.ageM r3 10 rfl with ⟨hp, _⟩ | ⟨hz, _⟩
                                · rw [HBA.out] at hp; cases hp
                                · exact hz
                              clear HBA
                              have hx5 : (S r3).extract 10 (S r3).size = S (r3.drop 10) := extract_rest (S r3) 10
                              have hdl : (r3.drop 10).length ≤ 1048576 := by rw [List.length_drop]; omega
                              generalize r3.drop 10 = d at hx5 hdl HQ
                              have hdz : (S d).size ≤ 1048576 := hdl
                              go_upto_region 23 with fail
                              clear hx5 hz10
                              go_wp2
                              go_loop [6] (fun i => ∃ q : Nat, 0 ≤ q ∧ q ≤ (S d).size ∧ i = .int .i64 q ∧ ∀ j (hj : j < (S d).size), 0 ≤ j → j < q → (S d)[j] ≠ 59) (fun i => (S d).size - (intOf i).toNat)
                              case atStart => exact ⟨0, Nat.le_refl _, Nat.zero_le _, by go_num, fun j _ h1 h2 => absurd h1 (by omega)⟩
                              case round =>
                                obtain ⟨q, hkq, hq, rfl, hno⟩ := hrel
                                have HNO := Lib.hid hno
                                clear hno
                                obtain ⟨bq, hbq⟩ : ∃ bq : Bool, bq = decide (∃ h : q < (S d).size, (S d)[q] ≠ 59) := ⟨_, rfl⟩
                                have HBQ := Lib.hid hbq
                                clear hbq
                                go_upto_region 24 with fail
                                go_cut [103] (fun t wx => t = .bool bq ∧ wx = wc)
                                case first =>
                                  by_cases hqs : q < (S d).size
                                  · by_cases h59 : (S d)[q] = 59
                                    · have e0 : (((S d)[q].toNat : Int) != 59) = false := by rw [h59]; rfl
                                      have hb0 : bq = false := by rw [HBQ.out]; exact decide_eq_false (fun ⟨_, h⟩ => h h59)
                                      subst hb0
                                      clear h59
                                      go_wp2
                                      go_meet
                                      exact ⟨rfl, rfl⟩
                                    · have e0 : (((S d)[q].toNat : Int) != 59) = true := by
                                        have : (S d)[q].toNat ≠ 59 := fun h => h59 (Pct.u8_eq h)
                                        simp; omega
                                      have hb0 : bq = true := by rw [HBQ.out]; exact decide_eq_true ⟨hqs, h59⟩
                                      subst hb0
                                      clear h59
                                      go_wp2
                                      go_meet
                                      exact ⟨rfl, rfl⟩
                                  · have hb0 : bq = false := by rw [HBQ.out]; exact decide_eq_false (fun ⟨h, _⟩ => hqs h)
                                    subst hb0
                                    go_wp2
                                    go_meet
                                    exact ⟨rfl, rfl⟩
                                case rest =>
                                  obtain ⟨hc1, hc2⟩ := hcut
                                  subst hc1
                                  subst hc2
                                  cases bq with
                                  | true =>
                                    obtain ⟨hqs, h59⟩ := of_decide_eq_true HBQ.out.symm
                                    have HC := Lib.hid h59
                                    clear h59 HBQ
                                    go_wp2
                                    go_round
                                    case rel =>
                                      refine ⟨q + 1, by omega, by omega, by go_num, fun m hm h1 h2 => ?_⟩
                                      by_cases e : m = q
                                      · subst e; exact HC.out
                                      · exact HNO.out m hm h1 (by omega)
                                    case measure => simp [intOf]; omega
                                  | false =>
                                    have hend : q = (S d).size ∨ ∃ h : q < (S d).size, (S d)[q] = 59 := by
                                      have hnot := of_decide_eq_false HBQ.out.symm
                                      by_cases hqs : q < (S d).size
                                      · exact .inr ⟨hqs, Classical.not_not.1 fun h => hnot ⟨hqs, h⟩⟩
                                      · exact .inl (by omega)
                                    clear HBQ
                                    have htw := Ck.tw_off (s := d) (o := 0) (qq := q) hkq hq (fun m hm h1 h2 => HNO.out m hm h1 h2) hend
                                    rw [List.drop_zero, Nat.sub_zero] at htw
                                    have hx2 : (S d).extract 0 q = S (d.take q) := extract_piece (S d) 0 q
                                    have hx3 : (S d).extract q (S d).size = S (d.drop q) := extract_rest (S d) q
                                    rw [← htw.1] at hx2
                                    rw [← htw.2] at hx3
                                    have hlt4 := Nat.le_trans (Ck.tw_len d) hdl
                                    have hlr4 := Nat.le_trans (Ck.dw_len d) hdl
                                    generalize Ck.tw d = t4 at hx2 hlt4 HQ
                                    generalize Ck.dw d = r4 at hx3 hlr4 HQ
                                    clear htw HNO hend
                                    have q0 : (0 : Int) ≤ (q : Int) := by omega
                                    have q1 : (q : Int) ≤ ((S d).size : Int) := by omega
                                    have hNum := fun w' => number_any t4 w' (by omega)
                                    generalize Ck.numberI t4 = ag at hNum HQ
                                    obtain ⟨d0, d1, d2, d3, d4, d5⟩ := hG.cur.all
                                    have x0 := hG.cur.frozen 3
                                    go_upto_region 28 with (go_at_call 43; refine (hNum _).mono ?_; rintro e w' ⟨rfl, rfl⟩)
                                    have hG := hG.set hrg hgg 3 _ _ (hG.cur.set3 ag)
                                    generalize (wc.setCell ⟨w.heap.size + 1, 3, none⟩ (.int .i64 ag)) = w5 at hG ⊢
                                    clear d0 d1 d2 d3 d4 d5 x0 q0 q1 hx2 hx3 hNum
                                    by_cases hag : ag < 0
                                    · have HF := Lib.hid (show Ck.refRead s = none by rw [HQ.out, if_pos hag])
                                      obtain ⟨d0, d1, d2, d3, d4, d5⟩ := hG.cur.all
                                      obtain ⟨⟨z0, z1, z2, z3, z4, z5⟩, y0, y1, y2, y3, y4, y5⟩ := hG.zero
                                      have HB := Lib.hid (hG.filled (Nat.le_refl _) zeroC)
                                      clear hG
                                      go_wp2
                                      exact bodyPost_ret (v := .tuple #[.agg #[.string ⟨#[]⟩, .string ⟨#[]⟩, .string ⟨#[]⟩, .int .i64 0, .bool false, .bool false], .int .i64 10]) (by simp [results, Tryd.results20, go_sem, z0, z1, z2, z3, z4, z5]) rfl ⟨readRes_none HF.out, HB.out⟩
                                    · have HQ2 := Lib.hid (show Ck.refRead s = Ck.refTail n v p ag r4 by rw [HQ.out, if_neg hag])
                                      have hag' : 0 ≤ ag := by omega
                                      obtain ⟨d0, d1, d2, d3, d4, d5⟩ := hG.cur.all
                                      clear hag HQ
                                      go_wp2
                                      go_meet
                                      exact ⟨r4, ag, rfl, hlr4, HQ2.out, hG⟩
                          case rest =>
                            obtain ⟨r4, ag, hc1, hlr4, hQ, hG⟩ := hcut
                            subst hc1
                            have HQ := Lib.hid hQ
                            clear hQ HPA HPB HBA
                            obtain ⟨bs, hbs⟩ : ∃ bs : Bool, Ck.secM.isPrefixOf r4 = bs := ⟨_, rfl⟩
                            have HBS := Lib.hid hbs
                            clear hbs
                            go_upto_region 30 with fail
                            have hwc : wc = wc := rfl
                            go_cut [125] (fun t wx => t = .bool bs ∧ GInv w w.heap.size (w.heap.size + 1) ⟨n, v, p, ag, false, false⟩ wx)
                            case first =>
                              have hS := S_list
                              rcases mark_at Ck.secM r4 8 rfl with ⟨hp, hz⟩ | ⟨hz, hp⟩
                              · obtain rfl : bs = false := by rw [← HBS.out]; exact hp
                                clear hp
                                go_wp2
                                go_meet
                                exact ⟨rfl, hG⟩
                              · have hx4 : (S r4).extract 0 8 = S (r4.take 8) := extract_piece (S r4) 0 8
                                generalize r4.take 8 = y8 at hp hx4
                                have e1 : (y8 == [59, 32, 83, 101, 99, 117, 114, 101]) = bs := by rw [← HBS.out]; exact hp.symm
                                clear hp
                                cases bs with
                                | true =>
                                  go_wp2
                                  go_meet
                                  exact ⟨rfl, hG⟩
                                | false =>
                                  go_wp2
                                  go_meet
                                  exact ⟨rfl, hG⟩
                            case rest =>
                              clear hG hwc
                              obtain ⟨hc1, hG⟩ := hcut
                              subst hc1
                              go_upto_if 125 with fail
                              go_cut [7] (fun b wx => ∃ x : List UInt8, b = .string (S x) ∧ x.length ≤ 1048576 ∧ Ck.secRest r4 = x ∧ GInv w w.heap.size (w.heap.size + 1) ⟨n, v, p, ag, bs, false⟩ wx)
                              case first =>
                                cases bs with
                                | false =>
                                  have HX := Lib.hid (Ck.secRest_no HBS.out)
                                  go_wp2
                                  go_meet
                                  exact ⟨r4, rfl, hlr4, HX.out, hG⟩
                                | true =>
                                  have HX := Lib.hid (Ck.secRest_yes HBS.out)
                                  have hz8 : 8 ≤ (S r4).size := by
                                    rcases mark_at Ck.secM r4 8 rfl with ⟨hp, _⟩ | ⟨hz, _⟩
                                    · rw [HBS.out] at hp; cases hp
                                    · exact hz
                                  have hx5 : (S r4).extract 8 (S r4).size = S (r4.drop 8) := extract_rest (S r4) 8
                                  have hdl : (r4.drop 8).length ≤ 1048576 := by rw [List.length_drop]; omega
                                  generalize r4.drop 8 = x at hx5 hdl HX
                                  obtain ⟨d0, d1, d2, d3, d4, d5⟩ := hG.cur.all
                                  have x0 := hG.cur.frozen 4
                                  have HG2 := Lib.hid (hG.set hrg hgg 4 _ _ (hG.cur.set4 true))
                                  go_wp2
                                  go_meet
                                  exact ⟨x, rfl, hdl, HX.out, HG2.out⟩
                              case rest =>
                                clear hG
                                obtain ⟨x, hc1, hxl, hX, hG⟩ := hcut
                                subst hc1
                                have HQ2 := Lib.hid (show Ck.refRead s = if x = Ck.httpM then Ck.last n v p ag bs true [] else Ck.last n v p ag bs false x by rw [HQ.out, Ck.refTail_last HBS.out, hX])
                                clear hX HQ HBS hlr4
                                obtain ⟨bh, hbh⟩ : ∃ bh : Bool, decide (x = Ck.httpM) = bh := ⟨_, rfl⟩
                                have e1 : (x == [59, 32, 72, 116, 116, 112, 79, 110, 108, 121]) = bh := by
                                  rw [← hbh, Bool.eq_iff_iff, beq_iff_eq, decide_eq_true_eq]
                                  rfl
                                have HBH := Lib.hid hbh
                                clear hbh
                                have hS := S_list
                                go_upto_if 130 with fail
                                clear hS
                                go_cut [7] (fun b wx => ∃ y : List UInt8, b = .string (S y) ∧ Ck.refRead s = Ck.last n v p ag bs bh y ∧ GInv w w.heap.size (w.heap.size + 1) ⟨n, v, p, ag, bs, bh⟩ wx)
                                case first =>
                                  cases bh with
                                  | false =>
                                    have HX := Lib.hid (show Ck.refRead s = Ck.last n v p ag bs false x by rw [HQ2.out, if_neg (of_decide_eq_false HBH.out)])
                                    clear HBH HQ2
                                    go_wp2
                                    go_meet
                                    exact ⟨x, rfl, HX.out, hG⟩
                                  | true =>
                                    have HX := Lib.hid (show Ck.refRead s = Ck.last n v p ag bs true [] by rw [HQ2.out, if_pos (of_decide_eq_true HBH.out)])
                                    clear HBH HQ2
                                    obtain ⟨d0, d1, d2, d3, d4, d5⟩ := hG.cur.all
                                    have x0 := hG.cur.frozen 5
                                    have HG2 := Lib.hid (hG.set hrg hgg 5 _ _ (hG.cur.set5 true))
                                    go_wp2
                                    go_meet
                                    exact ⟨[], rfl, HX.out, HG2.out⟩
                                case rest =>
                                  clear hG e1 hxl
                                  obtain ⟨y, hc1, hY, hG⟩ := hcut
                                  subst hc1
                                  have HY := Lib.hid hY
                                  clear hY HQ2 HBH
                                  obtain ⟨d0, d1, d2, d3, d4, d5⟩ := hG.cur.all
                                  have hR := fun w' => refRight_any ⟨n, v, p, ag, bs, bh⟩ w' ⟨by show n.length ≤ _; omega, by show v.length ≤ _; omega, by show p.length ≤ _; omega⟩
                                  go_wp2_with fail
                                  refine (hR _).mono ?_
                                  rintro e w9 ⟨rfl, hb9⟩
                                  have hG := hG.next hb9
                                  clear d0 d1 d2 d3 d4 d5 hb9 hR
                                  have hE := S_empty y
                                  by_cases hy : y = []
                                  · have e2 : (S y).toList.isEmpty = true := by rw [hE, hy]; rfl
                                    cases hr : Ck.right ⟨n, v, p, ag, bs, bh⟩ with
                                    | false =>
                                      have HF := Lib.hid (show Ck.refRead s = none by rw [HY.out]; unfold Ck.last; rw [if_neg (fun h => by have := h.2; rw [hr] at this; cases this)])
                                      clear hr HY hE hy
                                      obtain ⟨⟨z0, z1, z2, z3, z4, z5⟩, y0, y1, y2, y3, y4, y5⟩ := hG.zero
                                      have HB := Lib.hid (hG.filled (Nat.le_refl _) zeroC)
                                      clear hG
                                      go_wp2
                                      exact bodyPost_ret (v := .tuple #[.agg #[.string ⟨#[]⟩, .string ⟨#[]⟩, .string ⟨#[]⟩, .int .i64 0, .bool false, .bool false], .int .i64 10]) (by simp [results, Tryd.results20, go_sem, z0, z1, z2, z3, z4, z5]) rfl ⟨readRes_none HF.out, HB.out⟩
                                    | true =>
                                      have HF := Lib.hid (show Ck.refRead s = some ⟨n, v, p, ag, bs, bh⟩ by rw [HY.out]; unfold Ck.last; rw [if_pos ⟨hy, hr⟩])
                                      clear hr HY hE hy
                                      obtain ⟨d0, d1, d2, d3, d4, d5⟩ := hG.cur.all
                                      obtain ⟨⟨z0, z1, z2, z3, z4, z5⟩, y0, y1, y2, y3, y4, y5⟩ := hG.zero
                                      have HB := Lib.hid (hG.filled (Nat.le_refl _) ⟨n, v, p, ag, bs, bh⟩)
                                      clear hG
                                      go_wp2
                                      exact bodyPost_ret (v := .tuple #[.agg #[.string (S n), .string (S v), .string (S p), .int .i64 ag, .bool bs, .bool bh], .int .i64 0]) (by simp [results, Tryd.results20, go_sem, z0, z1, z2, z3, z4, z5]) rfl ⟨readRes_some (c := ⟨n, v, p, ag, bs, bh⟩) HF.out, HB.out⟩
                                  · have e2 : (S y).toList.isEmpty = false := by
                                      rw [hE]
                                      cases y with
                                      | nil => exact absurd rfl hy
                                      | cons _ _ => rfl
                                    have HF := Lib.hid (show Ck.refRead s = none by rw [HY.out]; unfold Ck.last; rw [if_neg (fun h => hy h.1)])
                                    clear HY hE hy
                                    obtain ⟨⟨z0, z1, z2, z3, z4, z5⟩, y0, y1, y2, y3, y4, y5⟩ := hG.zero
                                    have HB := Lib.hid (hG.filled (Nat.le_refl _) zeroC)
                                    clear hG
                                    go_wp2
                                    exact bodyPost_ret (v := .tuple #[.agg #[.string ⟨#[]⟩, .string ⟨#[]⟩, .string ⟨#[]⟩, .int .i64 0, .bool false, .bool false], .int .i64 10]) (by simp [results, Tryd.results20, go_sem, z0, z1, z2, z3, z4, z5]) rfl ⟨readRes_none HF.out, HB.out⟩
      · have e0 : (((S s)[k].toNat : Int) != 61) = true := by
          have : (S s)[k].toNat ≠ 61 := fun h => hc (Pct.u8_eq h)
          simp; omega
        have HC := Lib.hid hc
        clear hc
        go_wp2
        go_round
        case rel =>
          refine ⟨k + 1, by omega, by go_num, fun m hm hmk => ?_⟩
          by_cases e : m = k
          · subst e; exact HC.out
          · exact HNO.out m hm (by omega)
        case measure => simp [intOf]; omega
    · have e1 : ((k : Int) == ((S s).size : Int)) = true := by rw [show k = (S s).size by omega]; simp
      have HF := Lib.hid (show Ck.refRead s = none from Ck.refRead_no1 (cut_out fun m hm => HNO.out m hm (by have : (S s).size = s.length := rfl; omega)))
      obtain ⟨⟨z0, z1, z2, z3, z4, z5⟩, y0, y1, y2, y3, y4, y5⟩ := hG.zero
      have HB := Lib.hid (hG.filled (Nat.le_refl _) zeroC)
      clear hG
      go_wp2
      exact bodyPost_ret (v := .tuple #[.agg #[.string ⟨#[]⟩, .string ⟨#[]⟩, .string ⟨#[]⟩, .int .i64 0, .bool false, .bool false], .int .i64 10]) (by simp [results, Tryd.results20, go_sem, z0, z1, z2, z3, z4, z5]) rfl ⟨readRes_none HF.out, HB.out⟩
end Go.Proofs.YtpdilhnbbokipaaDoor
