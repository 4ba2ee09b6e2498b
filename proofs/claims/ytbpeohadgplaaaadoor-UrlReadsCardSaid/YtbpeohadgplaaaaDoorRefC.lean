/- What the document's own Normal answers, for any text of at most 2^30 bytes. -/
import Derived.Test.YtbpeohadgplaaaaDoorRefB
namespace Go.Proofs.YtbpeohadgplaaaaDoor
set_option maxRecDepth 8000
open Go.RowKit

theorem toldI_lt0 {o : Option UInt8} (h : o = none) : toldI o = -1 := by rw [h]; rfl
theorem toldI_u {o : Option UInt8} {u : UInt8} (h : o = some u) : toldI o = u.toNat := by rw [h]; rfl

theorem refTold_none (s : ByteArray) (k : Nat) (w : World) (hk : k < s.size) (hs : s.size ≤ 1099511627776) (h : Pct.told2 (s.data.toList.drop (k + 1)) = none) :
    Calls Tryd.prog 105 #[.string s, .int .i64 k] w fun e w' => e = .returned (.int .i64 (-1)) ∧ w = w' :=
  (refTold_any s k w hk hs).mono fun e w' ⟨he, hw⟩ => ⟨by rw [he, toldI_lt0 h], hw⟩
theorem refTold_some (s : ByteArray) (k : Nat) (u : UInt8) (w : World) (hk : k < s.size) (hs : s.size ≤ 1099511627776) (h : Pct.told2 (s.data.toList.drop (k + 1)) = some u) :
    Calls Tryd.prog 105 #[.string s, .int .i64 k] w fun e w' => e = .returned (.int .i64 (u.toNat : Int)) ∧ w = w' :=
  (refTold_any s k w hk hs).mono fun e w' ⟨he, hw⟩ => ⟨by rw [he, toldI_u h], hw⟩

/-- 'string([]byte{u})'. -/
theorem run_one (w : World) (u : UInt8) : (convert 77 9 (.slice (some ⟨w.heap.size, 0, none⟩) 1 1)).run Tryd.prog (w.alloc (.cells #[B u] 5)) = .ok (.string (S [u])) (w.alloc (.cells #[B u] 5)) :=
  run_convert_bytes_back (w.alloc (.cells #[B u] 5)) 77 9 5 ⟨w.heap.size, 0, none⟩ 1 [u] Tryd.underlying77 Tryd.underlying5 Tryd.underlying9
    (fun j hj => by
      have h0 : j = 0 := by simp at hj; exact hj
      subst h0
      exact cell_of_row _ w.heap.size 0 _ _ _ (heap_alloc_new w (.cells #[B u] 5)))

set_option maxHeartbeats 800000 in
theorem refNormal_any (s : ByteArray) (w : World) (hs : s.size ≤ 1073741824) :
    Calls Tryd.prog 79 #[.string s] w (Told w (decRes (Pct.norm s.data.toList))) := by
  have hsl : s.data.toList.length = s.size := by simp
  have HSL := Lib.hid hsl
  clear hsl
  go_enter Tryd.func79, Tryd.ntmps79
  go_wp2
  go_loopw [4, 5] (fun v i wr => ∃ (k : Nat) (acc : List UInt8), k ≤ s.size ∧ i = .int .i64 k ∧ v = .string (S acc) ∧ acc.length ≤ k ∧ ScanInv Pct.enc1 (fun c => [c]) s.data.toList acc k ∧ Below w.heap.size w wr) (fun _ i _ => s.size - (intOf i).toNat)
  case atStart => exact ⟨0, [], Nat.zero_le _, rfl, rfl, Nat.zero_le _, by unfold ScanInv; simp, Below.refl _ _⟩
  case round =>
    obtain ⟨k, acc, hk, rfl, rfl, hal, hinv, hb⟩ := hrel
    have hbs := hb.size
    by_cases hlt : k < s.size
    · have HG := Lib.hid (show ∃ h : k < s.data.toList.length, s.data.toList[k] = s[k] from ⟨by simpa using hlt, rfl⟩)
      by_cases hc : s[k] = 37
      · have hc' : ((s[k].toNat : Int) != 37) = false := by rw [hc]; rfl
        have HC := Lib.hid hc
        clear hc
        cases ht : Pct.told2 (s.data.toList.drop (k + 1)) with
        | none =>
          have HT := Lib.hid ht
          clear ht
          go_wp2_with (go_at_call 105; refine (refTold_none s k _ hlt (by omega) HT.out).mono ?_; rintro e w' ⟨rfl, rfl⟩)
          go_ret2
          obtain ⟨hg, hgc⟩ := HG.out
          exact ⟨ret_decN (hinv.bad hg (hgc.trans HC.out) HT.out), hb⟩
        | some u =>
          have HT := Lib.hid ht
          clear ht
          have hu8 := Pct.u8_lt u
          cases hpl : Pct.plainB u with
          | true =>
            have HE := Lib.hid (show Pct.enc1 u = [u] by unfold Pct.enc1; rw [if_pos hpl])
            have HP := Lib.hid hpl
            clear hpl
            have a1 := fun w' : World => run_add_S w' acc [u] (by simp; omega)
            have a2 := run_one wr u
            go_wp2_with (first
              | (go_at_call 105; refine (refTold_some s k u _ hlt (by omega) HT.out).mono ?_; rintro e w' ⟨rfl, rfl⟩)
              | (go_at_call 93; refine (refPlain_any u _).mono ?_; rintro e w' ⟨rfl, rfl⟩; rw [HP.out]))
            obtain ⟨hg, hgc⟩ := HG.out
            have hp := hinv.pct hg (hgc.trans HC.out) HT.out
            have hp1 := hp.1
            rw [HSL.out] at hp1
            rw [HE.out] at hp
            go_roundw
            case rel => exact ⟨k + 3, acc ++ [u], hp1, by go_num, rfl, by simp; omega, hp.2, hb.alloc hbs _⟩
            case measure => simp [intOf]; omega
          | false =>
            have HE := Lib.hid (show Pct.enc1 u = [37, Pct.dig (u.toNat / 16), Pct.dig (u.toNat % 16)] by unfold Pct.enc1; rw [if_neg (by simp [hpl])])
            have HP := Lib.hid hpl
            clear hpl
            have a1 := fun w' : World => run_add_S w' acc [37, Pct.dig (u.toNat / 16), Pct.dig (u.toNat % 16)] (by simp; omega)
            go_wp2_with (first
              | (go_at_call 105; refine (refTold_some s k u _ hlt (by omega) HT.out).mono ?_; rintro e w' ⟨rfl, rfl⟩)
              | (go_at_call 93; refine (refPlain_any u _).mono ?_; rintro e w' ⟨rfl, rfl⟩; rw [HP.out])
              | (go_at_call 94; refine (refPercent_any u _).mono ?_; rintro e w' ⟨rfl, n1, rfl⟩))
            obtain ⟨hg, hgc⟩ := HG.out
            have hp := hinv.pct hg (hgc.trans HC.out) HT.out
            have hp1 := hp.1
            rw [HSL.out] at hp1
            rw [HE.out] at hp
            go_roundw
            case rel => exact ⟨k + 3, acc ++ [37, Pct.dig (u.toNat / 16), Pct.dig (u.toNat % 16)], hp1, by go_num, rfl, by simp; omega, hp.2, below_drewN hb _⟩
            case measure => simp [intOf]; omega
      · have hc' : ((s[k].toNat : Int) != 37) = true := by
          have : s[k].toNat ≠ 37 := fun h => hc (Pct.u8_eq h)
          simp; omega
        have HC := Lib.hid hc
        clear hc
        have hx := extract_one s k hlt
        have a1 := fun w' : World => run_add_S w' acc [s[k]] (by simp; omega)
        go_wp2
        obtain ⟨hg, hgc⟩ := HG.out
        have hp := hinv.other hg (fun h => HC.out (hgc.symm.trans h))
        rw [hgc] at hp
        go_roundw
        case rel => exact ⟨k + 1, acc ++ [s[k]], by omega, by go_num, rfl, by simp; omega, hp, hb⟩
        case measure => simp [intOf]; omega
    · go_wp2
      go_ret2
      exact ⟨ret_dec (hinv.done (by rw [HSL.out]; omega)), hb⟩
end Go.Proofs.YtbpeohadgplaaaaDoor
