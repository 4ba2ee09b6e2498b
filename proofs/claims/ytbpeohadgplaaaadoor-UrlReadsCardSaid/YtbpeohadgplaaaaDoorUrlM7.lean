/- The document's own Parse of a URL whose scheme is http and whose host is one. -/
import Derived.Test.YtbpeohadgplaaaaDoorUrlI
import Derived.Deep.DeepCutAuto
namespace Go.Proofs.YtbpeohadgplaaaaDoor
set_option maxRecDepth 8000
open Go.RowKit

set_option maxHeartbeats 16000000 in
set_option maxRecDepth 100000 in
theorem refParse_on7 (l ho : List UInt8) (w : World) (he : Env w) (hlong : ¬ 2000 < l.length) (h7 : is7 l = true) (h8n : 8 ≤ l.length) (hho : (l.drop 7).takeWhile Url.noDelim = ho) (hok : hostOk ho = true) :
    Calls Tryd.prog 12 #[.string (S l)] w (Told w (parseRes (Url.parse l))) := by
  have HLT := Lib.hid he.lt
  have HLG := Lib.hid hlong
  have HSC := Lib.hid (sch_7 h7).1
  have HOK := Lib.hid hok
  obtain ⟨hne, h64, hget⟩ := host_get hok
  have hn0 : ho.length ≠ 0 := fun e => hne (List.length_eq_zero_iff.1 e)
  have HGET := Lib.hid hget
  clear hget hne hok
  have h8s : 8 ≤ (S l).size := h8n
  have hsl : (S l).size = l.length := rfl
  have hs : (S l).size ≤ 1073741824 := by omega
  have hlong' : ¬ 2000 < (S l).size := hlong
  have h7e := of_decide_eq_true h7
  have h7s : 7 ≤ (S l).size := is_len h7e rfl
  have h8e : Url.small (l.take 8) ≠ Url.https ++ Url.sep := of_decide_eq_false (is_both h7)
  obtain ⟨y7, hy7⟩ : ∃ y, y = l.take 7 := ⟨_, rfl⟩
  obtain ⟨y8, hy8⟩ : ∃ y, y = l.take 8 := ⟨_, rfl⟩
  rw [← hy7] at h7e
  rw [← hy8] at h8e
  have hyl7 : y7.length ≤ 7 := by rw [hy7, List.length_take]; omega
  have hyl8 : y8.length ≤ 8 := by rw [hy8, List.length_take]; omega
  have hx7 : (S l).extract 0 7 = S y7 := by rw [extract_piece, hy7]; rfl
  have hx8 : (S l).extract 0 8 = S y8 := by rw [extract_piece, hy8]; rfl
  clear hy7 hy8
  have HE7 := Lib.hid h7e
  have hB8 : ((S (Url.small y8)).toList == [104, 116, 116, 112, 115, 58, 47, 47]) = false := beq_eq_false_iff_ne.2 (by rw [S_list]; exact h8e)
  clear h7e h8e h7
  have HHO := Lib.hid hho
  have hlen : 7 + ho.length ≤ l.length := by
    have := Url.takeWhile_len Url.noDelim (l.drop 7)
    rw [hho, List.length_drop] at this
    omega
  have hx := piece_while (S l) l rfl Url.noDelim 7
  rw [hho] at hx
  have HSL := Lib.hid hsl
  clear hho hsl hlong
  go_enter Tryd.func12, Tryd.ntmps12
  go_wp2_with fail
  refine (refSmall7_yes y7 _ HE7.out).mono ?_
  rintro e w1 ⟨rfl, hb1⟩
  have a1 := (At0.start he).next hb1
  clear hb1 he
  go_wp2_with fail
  refine (refSmall_S y8 _ (by omega)).mono ?_
  rintro e w2 ⟨rfl, hb2⟩
  have a2 := a1.next hb2
  clear a1 hb2
  go_wp2_with fail
  refine (find4_at (S l) 7 _ w2 rfl (by omega) hs).mono ?_
  rintro e w3 ⟨rfl, hb3⟩
  have a3 := a2.next hb3
  clear a2 hb3
  rw [show (List.takeWhile Url.noDelim ((S l).data.toList.drop 7)) = ho from HHO.out]
  have hfc : ((7 : Nat) : Int) + ((ho.length : Nat) : Int) = ((7 + ho.length : Nat) : Int) := by omega
  rw [hfc]
  clear hfc
  obtain ⟨T, hT⟩ : ∃ T, T = 7 + ho.length := ⟨_, rfl⟩
  rw [← hT] at hx ⊢
  have hT1 : 7 ≤ T := by omega
  have hT2 : T ≤ (S l).size := by have := HSL.out; omega
  have hT3 : ho.length ≤ T := by omega
  have HT := Lib.hid hT
  clear hT hlen
  go_wp2_with fail
  refine (refSmall_S ho w3 (by omega)).mono ?_
  rintro e w4 ⟨rfl, hb4⟩
  have a4 := a3.next hb4
  clear a3 hb4
  have hHs : (S (Url.small ho)).size = ho.length := small_len ho
  have e1 : ((T : Int) == 7) = false := beq_eq_false_iff_ne.2 (by have := HT.out; omega)
  have e2 : ¬ 64 < (T : Int) - 7 := by have := HT.out; omega
  generalize hHd : S (Url.small ho) = H at hHs HGET
  go_wp2
  go_loop [8] (fun i => ∃ k : Nat, k ≤ H.size ∧ i = .int .i64 k) (fun i => H.size - (intOf i).toNat)
  case atStart => exact ⟨0, Nat.zero_le _, rfl⟩
  case round =>
    obtain ⟨k, hk, rfl⟩ := hrel
    by_cases hlt : k < H.size
    · have hd := of_decide_eq_true (HGET.out k hlt)
      rcases hd with hd | hd | hd | hd
      · have q1 : 97 ≤ H[k].toNat := hd.1
        have q2 : H[k].toNat ≤ 122 := hd.2
        clear hd
        go_wp2
        go_round
        case rel => exact ⟨k + 1, by omega, by go_num⟩
        case measure => simp [intOf]; omega
      · have q1 : 48 ≤ H[k].toNat := hd.1
        have q2 : H[k].toNat ≤ 57 := hd.2
        clear hd
        go_wp2
        go_round
        case rel => exact ⟨k + 1, by omega, by go_num⟩
        case measure => simp [intOf]; omega
      · have q1 : ((H[k].toNat : Int) != 45) = false := by simp; omega
        have q0 : (H[k].toNat : Int) = 45 := by have : H[k].toNat = 45 := hd; omega
        clear hd
        go_wp2
        go_round
        case rel => exact ⟨k + 1, by omega, by go_num⟩
        case measure => simp [intOf]; omega
      · have q1 : ((H[k].toNat : Int) != 45) = true := by simp; omega
        have q3 : ((H[k].toNat : Int) != 46) = false := by simp; omega
        have q0 : (H[k].toNat : Int) = 46 := by have : H[k].toNat = 46 := hd; omega
        clear hd
        go_wp2
        go_round
        case rel => exact ⟨k + 1, by omega, by go_num⟩
        case measure => simp [intOf]; omega
    · clear HGET hHs e1 e2 hx hB8
      subst hHd
      obtain ⟨r1, hr1⟩ : ∃ r1, (l.drop 7).dropWhile Url.noDelim = r1 := ⟨_, rfl⟩
      have HR1 := Lib.hid (show r1 = l.drop T by
        rw [← hr1, HT.out, ← List.drop_drop, ← HHO.out]
        exact (drop_while _ _).symm)
      have HP14 := Lib.hid (parse_port HLG.out HSC.out (by rw [HHO.out]; exact HOK.out))
      have HPT := Lib.hid (fun r2 n => parse_tail (r2 := r2) (n := n) HLG.out HSC.out (by rw [HHO.out]; exact HOK.out))
      rw [hr1] at HP14
      simp only [hr1, HHO.out] at HPT
      clear hr1
      obtain ⟨bc, hbc⟩ : ∃ bc : Bool, bc = decide (r1.head? = some 58) := ⟨_, rfl⟩
      have HBC := Lib.hid hbc
      clear hbc
      have hm0 : BlkU (w4.alloc (.cells #[.string ⟨#[104, 116, 116, 112]⟩, .string (S (Url.small ho)), .int .i64 0, .string ⟨#[]⟩, .string ⟨#[]⟩, .bool false] 24)) w4.heap.size ⟨Url.http, Url.small ho, 0, [], [], false⟩ := heap_alloc_new w4 _
      have ha0 := a4.next ((Below.refl w4.heap.size w4).alloc (Nat.le_refl _) (.cells #[.string ⟨#[104, 116, 116, 112]⟩, .string (S (Url.small ho)), .int .i64 0, .string ⟨#[]⟩, .string ⟨#[]⟩, .bool false] 24))
      have hgw : w.heap.size < w4.heap.size := below_lt a4.blk
      clear a4
      go_upto_region 24 with fail
      generalize hw5 : w4.alloc (.cells #[.string ⟨#[104, 116, 116, 112]⟩, .string (S (Url.small ho)), .int .i64 0, .string ⟨#[]⟩, .string ⟨#[]⟩, .bool false] 24) = w5 at hm0 ha0
      clear hw5
      go_cut [105] (fun t wx => t = .bool bc ∧ At0 w wx ∧ BlkU wx w4.heap.size ⟨Url.http, Url.small ho, 0, [], [], false⟩)
      case first =>
        by_cases hTs : T < (S l).size
        · have hb0 : (((S l)[T].toNat : Int) == 58) = bc := by
            rw [HBC.out, HR1.out, List.head?_drop]
            show _ = decide ((S l).data.toList[T]? = some 58)
            rw [Lib.data_getElem? (S l) _ hTs]
            by_cases e : (S l)[T] = 58
            · rw [e]; rfl
            · rw [decide_eq_false (fun h => e (Option.some.inj h))]
              exact beq_eq_false_iff_ne.2 fun h => e (Pct.u8_eq (by have : ((58 : UInt8).toNat) = 58 := rfl
                                                                    omega))
          cases bc with
          | true =>
            go_wp2
            go_meet
            exact ⟨rfl, ha0, hm0⟩
          | false =>
            go_wp2
            go_meet
            exact ⟨rfl, ha0, hm0⟩
        · have hb0 : bc = false := by
            rw [HBC.out, HR1.out, List.drop_eq_nil_of_le (by have := HSL.out; omega)]
            rfl
          subst hb0
          go_wp2
          go_meet
          exact ⟨rfl, ha0, hm0⟩
      case rest =>
        clear ha0 hm0
        obtain ⟨rfl, ha, hm⟩ := hcut
        go_upto_if 105 with fail
        go_cut [6, 105] (fun a t wx => t = .bool bc ∧ At0 w wx ∧ ∃ (T2 n : Nat) (r2 : List UInt8), a = .int .i64 (T2 : Int) ∧ T2 ≤ (S l).size ∧ portPart r1 = some (n, r2) ∧ r2 = l.drop T2 ∧ BlkU wx w4.heap.size ⟨Url.http, Url.small ho, Url.dfl Url.http n, [], [], false⟩)
        case first =>
          cases bc with
          | false =>
            have hb0 : portPart r1 = some (0, r1) := by
              have h58 := of_decide_eq_false HBC.out.symm
              unfold portPart
              cases r1 with
              | nil => rfl
              | cons c t => simp only; rw [if_neg (fun e => h58 (by rw [e]; rfl))]
            have HB0 := Lib.hid hb0
            clear hb0
            go_wp2
            go_meet
            exact ⟨rfl, ha, T, 0, r1, rfl, hT2, HB0.out, HR1.out, by rw [dfl_zero]; exact hm⟩
          | true =>
            have h58 := of_decide_eq_true HBC.out.symm
            have hTs : T < (S l).size := by
              rcases Nat.lt_or_ge T (S l).size with h | h
              · exact h
              · exfalso
                rw [HR1.out, List.drop_eq_nil_of_le (by have := HSL.out; omega)] at h58
                cases h58
            have hTl : T < l.length := by have := HSL.out; omega
            have hrr : r1 = 58 :: l.drop (T + 1) := by
              have h := h58
              rw [HR1.out, List.head?_drop, List.getElem?_eq_getElem hTl] at h
              rw [HR1.out, List.drop_eq_getElem_cons hTl, Option.some.inj h]
            obtain ⟨d, hd⟩ : ∃ d, (l.drop (T + 1)).takeWhile Url.noEnd = d := ⟨_, rfl⟩
            have hxd := piece_while (S l) l rfl Url.noEnd (T + 1)
            rw [hd] at hxd
            have hdl : T + 1 + d.length ≤ (S l).size := by
              have h1 := Url.takeWhile_len Url.noEnd (l.drop (T + 1))
              rw [hd, List.length_drop] at h1
              have := HSL.out
              omega
            obtain ⟨E, hE⟩ : ∃ E, E = T + 1 + d.length := ⟨_, rfl⟩
            rw [← hE] at hxd hdl
            have HPP := Lib.hid (show portPart r1 = (Url.portOf d).map fun m => (m, l.drop E) by
              rw [hrr]
              unfold portPart
              simp only [if_true]
              rw [show (l.drop (T + 1)).dropWhile Url.noEnd = l.drop E by
                have h1 : (l.drop (T + 1)).drop d.length = l.drop (T + 1 + d.length) := by rw [List.drop_drop]
                rw [hE, ← h1, ← hd]
                exact (drop_while _ _).symm, hd])
            have hE1 : T + 1 ≤ E := by omega
            have HEE := Lib.hid hE
            have HDD := Lib.hid hd
            clear hd hrr h58 hE
            have hT1s : (T : Int) + 1 ≤ ((S l).size : Int) := by omega
            have hnat : ((T : Int) + 1).toNat = T + 1 := by omega
            go_wp2_with fail
            refine (find3_at (S l) (T + 1) _ _ (by omega) (by omega) hs).mono ?_
            rintro e wd ⟨rfl, hbd⟩
            have ha2 := ha.next hbd
            have hm2 := hm.below hbd (below_lt hm)
            rw [show (List.takeWhile Url.noEnd ((S l).data.toList.drop (T + 1))) = d from HDD.out, show ((T + 1 : Nat) : Int) + ((d.length : Nat) : Int) = (E : Int) by have := HEE.out; omega]
            clear hbd ha hm
            obtain ⟨z0, z1, z2, z3, z4, z5, f0, f1, f2, f3, f4, f5⟩ := ha2.blk.zero
            have hbb := ha2.below
            have p2 := hm2.c2
            have pf2 := hm2.frozen 2
            go_wp2
            go_loop [13, 14] (fun v i => ∃ k n : Nat, k ≤ (S d).size ∧ i = .int .i64 k ∧ v = .int .i64 n ∧ n = Url.val (d.take k) ∧ n ≤ 655359 ∧ ∀ j (hj : j < (S d).size), j < k → Url.digB (S d)[j] = true) (fun _ i => (S d).size - (intOf i).toNat)
            case atStart => exact ⟨0, 0, Nat.zero_le _, rfl, rfl, rfl, by omega, fun j _ hj => absurd hj (by omega)⟩
            case round =>
              obtain ⟨k, n, hk, rfl, rfl, hn, hn6, hall⟩ := hrel
              have hdz : (S d).size ≤ 1073741824 := by
                have h1 : (S d).size = d.length := rfl
                have := HEE.out
                omega
              have HN := Lib.hid hn
              have HALL := Lib.hid hall
              clear hn hall
              by_cases hlt : k < (S d).size
              · have HVT := Lib.hid (val_take (S d) k hlt)
                cases hok : Url.digB (S d)[k] with
                | true =>
                  have hd := of_decide_eq_true (p := 48 ≤ (S d)[k].toNat ∧ (S d)[k].toNat ≤ 57) hok
                  have q1 : 48 ≤ (S d)[k].toNat := hd.1
                  have q2 : (S d)[k].toNat ≤ 57 := hd.2
                  have HOKK := Lib.hid hok
                  clear hd hok
                  by_cases hbig : 65535 < n
                  · have HR := Lib.hid (HP14.out (by rw [HPP.out, port_big (k := k) (by rw [← HN.out]; exact hbig)]; rfl))
                    go_wp2
                    exact bodyPost_ret (v := .tuple #[uV zeroU, .int .i64 14]) (by simp [results, Tryd.results12, go_sem, uV, uCells, zeroU, S, z0, z1, z2, z3, z4, z5]) rfl ⟨by rw [HR.out]; rfl, below_set6 hbb _ _ _ _ _ _⟩
                  · go_wp2
                    go_round
                    case rel =>
                      refine ⟨k + 1, n * 10 + ((S d)[k].toNat - 48), by omega, by go_num, congrArg (Value.int .i64) (by omega), ?_, by omega, fun j hj hjk => ?_⟩
                      · have h1 := HVT.out
                        have h2 := HN.out
                        have h3 : (S d).data.toList = d := rfl
                        rw [h3] at h1
                        rw [h1, ← h2]
                        omega
                      · by_cases e : j = k
                        · subst e; exact HOKK.out
                        · exact HALL.out j hj (by omega)
                    case measure => simp [intOf]; omega
                | false =>
                  have HR := Lib.hid (HP14.out (by rw [HPP.out, show Url.portOf d = none from portOf_bad (s := S d) hlt hok]; rfl))
                  have HC := Lib.hid (of_decide_eq_false (p := 48 ≤ (S d)[k].toNat ∧ (S d)[k].toNat ≤ 57) hok)
                  clear hok
                  go_wp2
                  all_goals first
                    | exact bodyPost_ret (v := .tuple #[uV zeroU, .int .i64 14]) (by simp [results, Tryd.results12, go_sem, uV, uCells, zeroU, S, z0, z1, z2, z3, z4, z5]) rfl ⟨by rw [HR.out]; rfl, below_set6 hbb _ _ _ _ _ _⟩
                    | (exfalso
                       have := HC.out
                       omega)
              · have HV := Lib.hid (show n = Url.val d by rw [HN.out, List.take_of_length_le (by have : (S d).size = d.length := rfl; omega)])
                have HAD := Lib.hid (show d.all Url.digB = true from all_of (s := S d) fun j hj => HALL.out j hj (by omega))
                have HPO := Lib.hid (show Url.portOf d = if d.all Url.digB = true ∧ d.headD 48 ≠ 48 ∧ Url.val d ≤ 65535 then some (Url.val d) else none from rfl)
                by_cases hn1 : n < 1
                · have HR := Lib.hid (HP14.out (by rw [HPP.out, port_zero HAD.out (by rw [← HV.out]; omega)]; rfl))
                  go_wp2
                  exact bodyPost_ret (v := .tuple #[uV zeroU, .int .i64 14]) (by simp [results, Tryd.results12, go_sem, uV, uCells, zeroU, S, z0, z1, z2, z3, z4, z5]) rfl ⟨by rw [HR.out]; rfl, below_set6 hbb _ _ _ _ _ _⟩
                · by_cases hn2 : 65535 < n
                  · have HR := Lib.hid (HP14.out (by rw [HPP.out, HPO.out, if_neg (by rintro ⟨_, _, h⟩; rw [← HV.out] at h; omega)]; rfl))
                    go_wp2
                    exact bodyPost_ret (v := .tuple #[uV zeroU, .int .i64 14]) (by simp [results, Tryd.results12, go_sem, uV, uCells, zeroU, S, z0, z1, z2, z3, z4, z5]) rfl ⟨by rw [HR.out]; rfl, below_set6 hbb _ _ _ _ _ _⟩
                  · have hd0 : 0 < (S d).size := by
                      rcases Nat.eq_zero_or_pos (S d).size with h | h
                      · exfalso
                        have h1 : d = [] := List.length_eq_zero_iff.1 h
                        have h2 := HV.out
                        rw [h1] at h2
                        simp [Url.val] at h2
                        omega
                      · exact h
                    have HHD := Lib.hid (show d.headD 48 = (S d)[0] from head_byte (s := S d) hd0)
                    by_cases h48 : (S d)[0] = 48
                    · have q1 : ((((S d)[0]'hd0).toNat : Int) == 48) = true := by rw [h48]; rfl
                      have HR := Lib.hid (HP14.out (by rw [HPP.out, HPO.out, if_neg (by rintro ⟨_, h, _⟩; exact h (by rw [HHD.out, h48]))]; rfl))
                      clear h48
                      go_wp2
                      exact bodyPost_ret (v := .tuple #[uV zeroU, .int .i64 14]) (by simp [results, Tryd.results12, go_sem, uV, uCells, zeroU, S, z0, z1, z2, z3, z4, z5]) rfl ⟨by rw [HR.out]; rfl, below_set6 hbb _ _ _ _ _ _⟩
                    · have q1 := u8_not (a := (S d)[0]'hd0) (n := 48) 48 rfl h48
                      have HPN := Lib.hid (show portPart r1 = some (n, l.drop E) by rw [HPP.out, HPO.out, if_pos ⟨HAD.out, by rw [HHD.out]; exact h48, by rw [← HV.out]; omega⟩, ← HV.out]; rfl)
                      clear h48
                      by_cases hown : n = 80
                      · have HDF := Lib.hid (show Url.dfl Url.http n = 0 by rw [hown]; decide)
                        have qo : ((n : Int) == 80) = true := by rw [hown]; rfl
                        clear hown
                        go_wp2
                        go_meet
                        exact ⟨rfl, ha2, E, n, l.drop E, rfl, hdl, HPN.out, rfl, by rw [HDF.out]; exact hm2⟩
                      · have HDF := Lib.hid (show Url.dfl Url.http n = n by rw [dfl_own (by exact .inl rfl), if_neg (by show ¬ (n : Int) = ownP Url.http; rw [show ownP Url.http = 80 by decide]; omega)])
                        have qo : ((n : Int) == 80) = false := beq_eq_false_iff_ne.2 (by omega)
                        clear hown
                        go_wp2
                        go_meet
                        exact ⟨rfl, ha2.set hgw HLT.out 2 _, E, n, l.drop E, rfl, hdl, HPN.out, rfl, by rw [HDF.out]; exact blk_set hm2 rfl⟩
        case rest =>
          clear ha hm
          obtain ⟨rfl, ha, T2, n, r2, rfl, hT22, hpp, hr2, hm⟩ := hcut
          have HTL := Lib.hid (HPT.out r2 n hpp)
          obtain ⟨pa, qu, f, hq⟩ : ∃ pa qu f, Pct.cutAt 63 r2 = (pa, qu, f) := ⟨_, _, _, rfl⟩
          obtain ⟨k1, k2, k3⟩ := q_cut r2
          rw [hq] at k1 k2 k3
          simp only at k1 k2 k3
          have hxp := piece_while (S l) l rfl Url.notQ T2
          have hmk : (l.drop T2).takeWhile Url.notQ = pa := by rw [← hr2]; exact k1
          rw [hmk] at hxp
          have hpl : T2 + pa.length ≤ l.length := by
            have h1 := Url.takeWhile_len Url.notQ (l.drop T2)
            rw [hmk, List.length_drop] at h1
            have := HSL.out
            omega
          obtain ⟨M, hM⟩ : ∃ M, M = T2 + pa.length := ⟨_, rfl⟩
          rw [← hM] at hxp hpl
          have hrest : l.drop M = if f = true then 63 :: qu else [] := by
            rw [hM, ← List.drop_drop, ← hr2, ← k2, ← k1]
            exact drop_while _ _
          have hM1 : T2 ≤ M := by omega
          have hM2 : M ≤ (S l).size := by have := HSL.out; omega
          have HQ := Lib.hid hq
          have HMK := Lib.hid hmk
          have HMM := Lib.hid hM
          have HRS := Lib.hid hrest
          have HK3 := Lib.hid k3
          clear hq k1 k2 k3 hmk hM hrest hr2 hpp
          go_wp2_with fail
          refine (find1_at (S l) T2 _ _ rfl hT22 hs).mono ?_
          rintro e wa ⟨rfl, hba⟩
          have ha2 := ha.next hba
          have hm2 := hm.below hba (below_lt hm)
          rw [show (List.takeWhile Url.notQ ((S l).data.toList.drop T2)) = pa from HMK.out, show (T2 : Int) + ((pa.length : Nat) : Int) = (M : Int) by have := HMM.out; omega]
          clear hba ha hm
          have hpz : pa.length ≤ 2000 := by have := HMM.out; have := HSL.out; omega
          cases hp : Url.part pa with
          | none =>
            have HR := Lib.hid (HTL.out.trans (tail_path HQ.out hp))
            have hP := fun w' => refPart_none pa w' (by omega) hp
            clear hp
            go_wp2_with fail
            refine (hP _).mono ?_
            rintro e wb ⟨rfl, hb2⟩
            have ha3 := ha2.next hb2
            clear hb2
            obtain ⟨z0, z1, z2, z3, z4, z5, f0, f1, f2, f3, f4, f5⟩ := ha3.blk.zero
            have hbb := ha3.below
            go_wp2
            exact bodyPost_ret (v := .tuple #[uV zeroU, .int .i64 15]) (by simp [results, Tryd.results12, go_sem, uV, uCells, zeroU, S, z0, z1, z2, z3, z4, z5]) rfl ⟨by rw [HR.out]; rfl, below_set6 hbb _ _ _ _ _ _⟩
          | some p =>
            have hpp := part_len hp
            have hP := fun w' => refPart_some pa p w' (by omega) hp
            have HPA := Lib.hid hp
            have HPE := Lib.hid (S_empty p)
            clear hp
            go_wp2_with fail
            refine (hP _).mono ?_
            rintro e wb ⟨rfl, hb2⟩
            have ha3 := ha2.next hb2
            have hm3 := hm2.below hb2 (below_lt hm2)
            clear hb2 ha2 hm2
            cases f with
            | false =>
              have hnm : ¬ M < (S l).size := by
                intro h
                have h1 := HRS.out
                rw [if_neg (by decide)] at h1
                have h2 : (l.drop M).length = 0 := by rw [h1]; rfl
                rw [List.length_drop] at h2
                have := HSL.out
                omega
              have HR := Lib.hid (HTL.out.trans (tail_ok HQ.out HPA.out (q := []) (by rw [HK3.out rfl]; rfl)))
              have hD := fun w' => refDots_S p w' (by omega)
              go_wp2_with fail
              refine (hD _).mono ?_
              rintro e wc ⟨rfl, hb3⟩
              have ha4 := ha3.next hb3
              have hm4 := hm3.below hb3 (below_lt hm3)
              clear hb3 ha3 hm3
              have u0 := hm4.c0
              have u1 := hm4.c1
              have u2 := hm4.c2
              have u3 := hm4.c3
              have u4 := hm4.c4
              have u5 := hm4.c5
              have ug3 := hm4.frozen 3
              obtain ⟨z0, z1, z2, z3, z4, z5, f0, f1, f2, f3, f4, f5⟩ := ha4.blk.zero
              by_cases hp0 : p = []
              · have hpe : (S p).toList.isEmpty = true := by rw [HPE.out, hp0]; rfl
                have HPO := Lib.hid (show Url.pathOf p = [47] by rw [hp0]; rfl)
                have hbb := ((ha4.set hgw HLT.out 3 (.string (S (Url.dots p)))).set hgw HLT.out 3 (.string ⟨#[47]⟩)).below
                clear hp0
                go_wp2
                exact bodyPost_ret (v := .tuple #[uV ⟨Url.http, Url.small ho, Url.dfl Url.http n, [47], [], false⟩, .int .i64 0]) (by simp [results, Tryd.results12, go_sem, uV, uCells, S, z0, z1, z2, z3, z4, z5, Url.http]) rfl ⟨by rw [HR.out, HPO.out]; rfl, by first | exact below_set6 hbb _ _ _ _ _ _ | exact below_set6 (ha4.set hgw HLT.out 3 (.string ⟨#[47]⟩)).below _ _ _ _ _ _⟩
              · have hpe : (S p).toList.isEmpty = false := by rw [HPE.out]; cases p with | nil => exact absurd rfl hp0 | cons _ _ => rfl
                have HPO := Lib.hid (show Url.pathOf p = Url.dots p by unfold Url.pathOf; rw [if_neg hp0])
                have hbb := (ha4.set hgw HLT.out 3 (.string (S (Url.dots p)))).below
                clear hp0
                go_wp2
                exact bodyPost_ret (v := .tuple #[uV ⟨Url.http, Url.small ho, Url.dfl Url.http n, Url.dots p, [], false⟩, .int .i64 0]) (by simp [results, Tryd.results12, go_sem, uV, uCells, S, z0, z1, z2, z3, z4, z5, Url.http]) rfl ⟨by rw [HR.out, HPO.out]; rfl, below_set6 hbb _ _ _ _ _ _⟩
            | true =>
              have hnm : M < (S l).size := by
                rcases Nat.lt_or_ge M (S l).size with h | h
                · exact h
                · exfalso
                  have h1 := HRS.out
                  rw [List.drop_eq_nil_of_le (by have := HSL.out; omega)] at h1
                  simp at h1
              have hxq : (S l).extract (M + 1) (S l).size = S qu := by
                rw [extract_rest]
                have h1 := HRS.out
                rw [if_pos rfl] at h1
                have h2 : l.drop (M + 1) = qu := by rw [← List.drop_drop, h1]; rfl
                rw [← h2]
                rfl
              have hql : qu.length ≤ 2000 := by
                have h1 := HRS.out
                rw [if_pos rfl] at h1
                have h2 := congrArg List.length h1
                rw [List.length_drop] at h2
                simp at h2
                have := HSL.out
                omega
              have hnat : ((M : Int) + 1).toNat = M + 1 := by omega
              have c5 := hm3.c5
              have g5 := hm3.frozen 5
              have hm4 : BlkU (wb.setCell ⟨w4.heap.size, 5, none⟩ (.bool true)) w4.heap.size ⟨Url.http, Url.small ho, Url.dfl Url.http n, [], [], true⟩ := blk_set hm3 rfl
              have ha4 := ha3.set hgw HLT.out 5 (.bool true)
              cases hqq : Url.part qu with
              | none =>
                have HR := Lib.hid (HTL.out.trans (tail_query HQ.out HPA.out hqq))
                have hQ := fun w' => refPart_none qu w' (by omega) hqq
                clear hqq
                go_wp2_with fail
                refine (hQ _).mono ?_
                rintro e wc ⟨rfl, hb3⟩
                have ha5 := ha4.next hb3
                have hm5 := hm4.below hb3 (below_lt hm4)
                clear hb3 ha4 hm4 ha3 hm3 c5 g5
                have c4 := hm5.c4
                have g4 := hm5.frozen 4
                obtain ⟨z0, z1, z2, z3, z4, z5, f0, f1, f2, f3, f4, f5⟩ := ha5.blk.zero
                have hbb := (ha5.set hgw HLT.out 4 (.string ⟨#[]⟩)).below
                go_wp2
                exact bodyPost_ret (v := .tuple #[uV zeroU, .int .i64 15]) (by simp [results, Tryd.results12, go_sem, uV, uCells, zeroU, S, z0, z1, z2, z3, z4, z5]) rfl ⟨by rw [HR.out]; rfl, below_set6 hbb _ _ _ _ _ _⟩
              | some q =>
                have HR := Lib.hid (HTL.out.trans (tail_ok HQ.out HPA.out hqq))
                have hQ := fun w' => refPart_some qu q w' (by omega) hqq
                clear hqq
                go_wp2_with fail
                refine (hQ _).mono ?_
                rintro e wc0 ⟨rfl, hb3⟩
                have ha5 := ha4.next hb3
                have hm5 := hm4.below hb3 (below_lt hm4)
                clear hb3 ha4 hm4 ha3 hm3 c5 g5
                have c4 := hm5.c4
                have g4 := hm5.frozen 4
                have hm6 : BlkU (wc0.setCell ⟨w4.heap.size, 4, none⟩ (.string (S q))) w4.heap.size ⟨Url.http, Url.small ho, Url.dfl Url.http n, [], q, true⟩ := blk_set hm5 rfl
                have ha6 := ha5.set hgw HLT.out 4 (.string (S q))
                have hD := fun w' => refDots_S p w' (by omega)
                go_wp2_with fail
                refine (hD _).mono ?_
                rintro e wc ⟨rfl, hb4⟩
                have ha4 := ha6.next hb4
                have hm4 := hm6.below hb4 (below_lt hm6)
                clear hb4 ha5 hm5 ha6 hm6 c4 g4
                have u0 := hm4.c0
                have u1 := hm4.c1
                have u2 := hm4.c2
                have u3 := hm4.c3
                have u4 := hm4.c4
                have u5 := hm4.c5
                have ug3 := hm4.frozen 3
                obtain ⟨z0, z1, z2, z3, z4, z5, f0, f1, f2, f3, f4, f5⟩ := ha4.blk.zero
                by_cases hp0 : p = []
                · have hpe : (S p).toList.isEmpty = true := by rw [HPE.out, hp0]; rfl
                  have HPO := Lib.hid (show Url.pathOf p = [47] by rw [hp0]; rfl)
                  have hbb := ((ha4.set hgw HLT.out 3 (.string (S (Url.dots p)))).set hgw HLT.out 3 (.string ⟨#[47]⟩)).below
                  clear hp0
                  go_wp2
                  exact bodyPost_ret (v := .tuple #[uV ⟨Url.http, Url.small ho, Url.dfl Url.http n, [47], q, true⟩, .int .i64 0]) (by simp [results, Tryd.results12, go_sem, uV, uCells, S, z0, z1, z2, z3, z4, z5, Url.http]) rfl ⟨by rw [HR.out, HPO.out]; rfl, by first | exact below_set6 hbb _ _ _ _ _ _ | exact below_set6 (ha4.set hgw HLT.out 3 (.string ⟨#[47]⟩)).below _ _ _ _ _ _⟩
                · have hpe : (S p).toList.isEmpty = false := by rw [HPE.out]; cases p with | nil => exact absurd rfl hp0 | cons _ _ => rfl
                  have HPO := Lib.hid (show Url.pathOf p = Url.dots p by unfold Url.pathOf; rw [if_neg hp0])
                  have hbb := (ha4.set hgw HLT.out 3 (.string (S (Url.dots p)))).below
                  clear hp0
                  go_wp2
                  exact bodyPost_ret (v := .tuple #[uV ⟨Url.http, Url.small ho, Url.dfl Url.http n, Url.dots p, q, true⟩, .int .i64 0]) (by simp [results, Tryd.results12, go_sem, uV, uCells, S, z0, z1, z2, z3, z4, z5, Url.http]) rfl ⟨by rw [HR.out, HPO.out]; rfl, below_set6 hbb _ _ _ _ _ _⟩
end Go.Proofs.YtbpeohadgplaaaaDoor
