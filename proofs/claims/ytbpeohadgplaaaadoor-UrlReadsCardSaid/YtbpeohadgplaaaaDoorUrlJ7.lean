/- The document's own Parse of a URL whose scheme is http and whose host is none. -/
import Derived.Test.YtbpeohadgplaaaaDoorUrlI
namespace Go.Proofs.YtbpeohadgplaaaaDoor
set_option maxRecDepth 8000
open Go.RowKit

set_option maxHeartbeats 6400000 in
set_option maxRecDepth 100000 in
theorem refParse_host7 (l ho : List UInt8) (w : World) (he : Env w) (hlong : ¬ 2000 < l.length) (h7 : is7 l = true) (h8n : 8 ≤ l.length) (hho : (l.drop 7).takeWhile Url.noDelim = ho) (hbad : hostOk ho = false) :
    Calls Tryd.prog 12 #[.string (S l)] w (Told w (.returned (.tuple #[uV zeroU, .int .i64 13]))) := by
  have h8s : 8 ≤ (S l).size := h8n
  have hsl : (S l).size = l.length := rfl
  have hs : (S l).size ≤ 1073741824 := by omega
  have hlong' : ¬ 2000 < (S l).size := hlong
  have h7e := of_decide_eq_true h7
  have h7s : 7 ≤ (S l).size := is_len h7e rfl
  have h8e : Url.small (l.take 8) ≠ Url.https ++ Url.sep := of_decide_eq_false (is_both h7)
  obtain ⟨y7, hy7⟩ : ∃ y, y = l.take 7 := ⟨_, rfl⟩
  obtain ⟨y8, hy8⟩ : ∃ y, y = l.take 8 := ⟨_, rfl⟩
  rw [← hy7] at h7e
  rw [← hy8] at h8e
  have hyl7 : y7.length ≤ 7 := by rw [hy7, List.length_take]; omega
  have hyl8 : y8.length ≤ 8 := by rw [hy8, List.length_take]; omega
  have hx7 : (S l).extract 0 7 = S y7 := by rw [extract_piece, hy7]; rfl
  have hx8 : (S l).extract 0 8 = S y8 := by rw [extract_piece, hy8]; rfl
  clear hy7 hy8
  have HE7 := Lib.hid h7e
  have hB8 : ((S (Url.small y8)).toList == [104, 116, 116, 112, 115, 58, 47, 47]) = false := beq_eq_false_iff_ne.2 (by rw [S_list]; exact h8e)
  clear h7e h8e h7
  have HHO := Lib.hid hho
  have hlen : 7 + ho.length ≤ l.length := by
    have := Url.takeWhile_len Url.noDelim (l.drop 7)
    rw [hho, List.length_drop] at this
    omega
  have hx := piece_while (S l) l rfl Url.noDelim 7
  rw [hho] at hx
  have HSL := Lib.hid hsl
  clear hho hsl hlong
  go_enter Tryd.func12, Tryd.ntmps12
  go_wp2_with fail
  refine (refSmall7_yes y7 _ HE7.out).mono ?_
  rintro e w1 ⟨rfl, hb1⟩
  have a1 := (At0.start he).next hb1
  clear hb1 he
  go_wp2_with fail
  refine (refSmall_S y8 _ (by omega)).mono ?_
  rintro e w2 ⟨rfl, hb2⟩
  have a2 := a1.next hb2
  clear a1 hb2
  go_wp2_with fail
  refine (find4_at (S l) 7 _ w2 rfl (by omega) hs).mono ?_
  rintro e w3 ⟨rfl, hb3⟩
  have a3 := a2.next hb3
  clear a2 hb3
  rw [show (List.takeWhile Url.noDelim ((S l).data.toList.drop 7)) = ho from HHO.out]
  have hfc : ((7 : Nat) : Int) + ((ho.length : Nat) : Int) = ((7 + ho.length : Nat) : Int) := by omega
  rw [hfc]
  clear hfc
  obtain ⟨T, hT⟩ : ∃ T, T = 7 + ho.length := ⟨_, rfl⟩
  rw [← hT] at hx ⊢
  have hT1 : 7 ≤ T := by omega
  have hT2 : T ≤ (S l).size := by have := HSL.out; omega
  have hT3 : ho.length ≤ T := by omega
  have HT := Lib.hid hT
  clear hT hlen
  go_wp2_with fail
  refine (refSmall_S ho w3 (by omega)).mono ?_
  rintro e w4 ⟨rfl, hb4⟩
  have a4 := a3.next hb4
  clear a3 hb4
  have HBAD := Lib.hid hbad
  obtain ⟨z0, z1, z2, z3, z4, z5, f0, f1, f2, f3, f4, f5⟩ := a4.blk.zero
  have hbb := a4.below
  clear a4 hbad
  have hHs : (S (Url.small ho)).size = ho.length := small_len ho
  by_cases hn0 : ho.length = 0
  · have e1 : ((T : Int) == 7) = true := beq_iff_eq.2 (by have := HT.out; omega)
    clear hHs
    go_wp2
    exact bodyPost_ret (v := .tuple #[uV zeroU, .int .i64 13]) (by simp [results, Tryd.results12, go_sem, uV, uCells, zeroU, S, z0, z1, z2, z3, z4, z5]) rfl ⟨rfl, below_set6 hbb _ _ _ _ _ _⟩
  · have e1 : ((T : Int) == 7) = false := beq_eq_false_iff_ne.2 (by have := HT.out; omega)
    by_cases hn1 : 64 < ho.length
    · have e2 : 64 < (T : Int) - 7 := by have := HT.out; omega
      clear hHs
      go_wp2
      exact bodyPost_ret (v := .tuple #[uV zeroU, .int .i64 13]) (by simp [results, Tryd.results12, go_sem, uV, uCells, zeroU, S, z0, z1, z2, z3, z4, z5]) rfl ⟨rfl, below_set6 hbb _ _ _ _ _ _⟩
    · have e2 : ¬ 64 < (T : Int) - 7 := by have := HT.out; omega
      have HM := Lib.hid (show hostOk ho = (decide (ho ≠ []) && decide (ho.length ≤ 64) && (Url.small ho).all Url.hostB) by rw [host_all]; rfl)
      have HH := Lib.hid (show (S (Url.small ho)).data.toList = Url.small ho from rfl)
      generalize hHd : S (Url.small ho) = H at hHs HH
      go_wp2
      go_loop [8] (fun i => ∃ k : Nat, k ≤ H.size ∧ i = .int .i64 k ∧ ∀ j (hj : j < H.size), j < k → Url.hostB H[j] = true) (fun i => H.size - (intOf i).toNat)
      case atStart => exact ⟨0, Nat.zero_le _, rfl, fun j _ h => absurd h (by omega)⟩
      case round =>
        obtain ⟨k, hk, rfl, hn⟩ := hrel
        have HN := Lib.hid hn
        clear hn
        by_cases hlt : k < H.size
        · cases hok : Url.hostB H[k] with
          | true =>
            have hd := of_decide_eq_true hok
            have HRD := Lib.hid (show ∀ j (hj : j < H.size), j < k + 1 → Url.hostB H[j] = true from fun j hj hjk => by
              by_cases e : j = k
              · subst e; exact hok
              · exact HN.out j hj (by omega))
            clear hok
            rcases hd with hd | hd | hd | hd
            · have q1 : 97 ≤ H[k].toNat := hd.1
              have q2 : H[k].toNat ≤ 122 := hd.2
              clear hd
              go_wp2
              go_round
              case rel => exact ⟨k + 1, by omega, by go_num, HRD.out⟩
              case measure => simp [intOf]; omega
            · have q1 : 48 ≤ H[k].toNat := hd.1
              have q2 : H[k].toNat ≤ 57 := hd.2
              clear hd
              go_wp2
              go_round
              case rel => exact ⟨k + 1, by omega, by go_num, HRD.out⟩
              case measure => simp [intOf]; omega
            · have q1 : ((H[k].toNat : Int) != 45) = false := by simp; omega
              have q0 : (H[k].toNat : Int) = 45 := by have : H[k].toNat = 45 := hd; omega
              clear hd
              go_wp2
              go_round
              case rel => exact ⟨k + 1, by omega, by go_num, HRD.out⟩
              case measure => simp [intOf]; omega
            · have q1 : ((H[k].toNat : Int) != 45) = true := by simp; omega
              have q3 : ((H[k].toNat : Int) != 46) = false := by simp; omega
              have q0 : (H[k].toNat : Int) = 46 := by have : H[k].toNat = 46 := hd; omega
              clear hd
              go_wp2
              go_round
              case rel => exact ⟨k + 1, by omega, by go_num, HRD.out⟩
              case measure => simp [intOf]; omega
          | false =>
            have HC := Lib.hid (of_decide_eq_false hok)
            have q1 : ((H[k].toNat : Int) != 45) = true := bne_iff_ne.2 (fun e => HC.out (by omega))
            have q3 : ((H[k].toNat : Int) != 46) = true := bne_iff_ne.2 (fun e => HC.out (by omega))
            clear hok
            go_wp2
            all_goals first
              | exact bodyPost_ret (v := .tuple #[uV zeroU, .int .i64 13]) (by simp [results, Tryd.results12, go_sem, uV, uCells, zeroU, S, z0, z1, z2, z3, z4, z5]) rfl ⟨rfl, below_set6 hbb _ _ _ _ _ _⟩
              | (exfalso
                 have := HC.out
                 omega)
        · exfalso
          have h1 : ho ≠ [] := fun e => hn0 (by rw [e]; rfl)
          have h2 : ho.length ≤ 64 := by omega
          have h3 := HM.out
          rw [HBAD.out, ← HH.out, decide_eq_true h1, decide_eq_true h2, show H.data.toList.all Url.hostB = true from List.all_eq_true.2 fun x hx => by
            obtain ⟨j, hj, rfl⟩ := List.getElem_of_mem hx
            exact HN.out j (by simpa using hj) (by have : j < H.size := by simpa using hj
                                                   omega)] at h3
          cases h3
end Go.Proofs.YtbpeohadgplaaaaDoor
