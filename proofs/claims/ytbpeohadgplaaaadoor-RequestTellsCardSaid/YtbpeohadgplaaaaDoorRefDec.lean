/- What the document's own Decode answers, for any text of at most 2^30 bytes. -/
import Derived.Test.YtbpeohadgplaaaaDoorRefC
namespace Go.Proofs.YtbpeohadgplaaaaDoor
set_option maxRecDepth 8000
open Go.RowKit

set_option maxHeartbeats 800000 in
theorem refDecode_any (s : ByteArray) (p : Bool) (w : World) (hs : s.size ≤ 1073741824) :
    Calls Tryd.prog 89 #[.string s, .bool p] w (Told w (decRes (Pct.dec p s.data.toList))) := by
  have hsl : s.data.toList.length = s.size := by simp
  have HSL := Lib.hid hsl
  clear hsl
  go_enter Tryd.func89, Tryd.ntmps89
  go_wp2
  go_loopw [6, 7] (fun v i wr => ∃ (k : Nat) (acc : List UInt8), k ≤ s.size ∧ i = .int .i64 k ∧ v = .string (S acc) ∧ acc.length ≤ k ∧ ScanInv (fun u => [u]) (fun c => [Pct.plusB p c]) s.data.toList acc k ∧ Below w.heap.size w wr) (fun _ i _ => s.size - (intOf i).toNat)
  case atStart => exact ⟨0, [], Nat.zero_le _, rfl, rfl, Nat.zero_le _, by unfold ScanInv; simp, Below.refl _ _⟩
  case round =>
    obtain ⟨k, acc, hk, rfl, rfl, hal, hinv, hb⟩ := hrel
    have hbs := hb.size
    by_cases hlt : k < s.size
    · have HG := Lib.hid (show ∃ h : k < s.data.toList.length, s.data.toList[k] = s[k] from ⟨by simpa using hlt, rfl⟩)
      by_cases hc : s[k] = 37
      · have hc' : ((s[k].toNat : Int) == 37) = true := by rw [hc]; rfl
        have HC := Lib.hid hc
        clear hc
        cases ht : Pct.told2 (s.data.toList.drop (k + 1)) with
        | none =>
          have HT := Lib.hid ht
          clear ht
          go_wp2_with (go_at_call 105; refine (refTold_none s k _ hlt (by omega) HT.out).mono ?_; rintro e w' ⟨rfl, rfl⟩)
          go_ret2
          obtain ⟨hg, hgc⟩ := HG.out
          exact ⟨ret_decN (hinv.bad hg (hgc.trans HC.out) HT.out), hb⟩
        | some u =>
          have HT := Lib.hid ht
          clear ht
          have hu8 := Pct.u8_lt u
          have a1 := fun w' : World => run_add_S w' acc [u] (by simp; omega)
          have a2 := run_one wr u
          go_wp2_with (go_at_call 105; refine (refTold_some s k u _ hlt (by omega) HT.out).mono ?_; rintro e w' ⟨rfl, rfl⟩)
          obtain ⟨hg, hgc⟩ := HG.out
          have hp := hinv.pct hg (hgc.trans HC.out) HT.out
          have hp1 := hp.1
          rw [HSL.out] at hp1
          go_roundw
          case rel => exact ⟨k + 3, acc ++ [u], hp1, by go_num, rfl, by simp; omega, hp.2, hb.alloc hbs _⟩
          case measure => simp [intOf]; omega
      · have hc' : ((s[k].toNat : Int) == 37) = false := by
          have : s[k].toNat ≠ 37 := fun h => hc (Pct.u8_eq h)
          simp; omega
        have HC := Lib.hid hc
        clear hc
        by_cases hplus : p = true ∧ s[k] = 43
        · obtain ⟨rfl, hq⟩ := hplus
          have hq' : ((s[k].toNat : Int) == 43) = true := by rw [hq]; rfl
          have HQ := Lib.hid hq
          clear hq
          have a1 : ∀ w' : World, (Op.stringOp .add (S acc) ⟨#[32]⟩).run Tryd.prog w' = .ok (.string (S (acc ++ [32]))) w' := fun w' : World => run_add_S w' acc [32] (by simp; omega)
          go_wp2
          obtain ⟨hg, hgc⟩ := HG.out
          have hp := hinv.other hg (fun h => HC.out (hgc.symm.trans h))
          rw [hgc, show Pct.plusB true s[k] = 32 by rw [HQ.out]; rfl] at hp
          go_roundw
          case rel => exact ⟨k + 1, acc ++ [32], by omega, by go_num, rfl, by simp; omega, hp, hb⟩
          case measure => simp [intOf]; omega
        · have hpl : Pct.plusB p s[k] = s[k] := by
            unfold Pct.plusB
            rw [if_neg (by simpa using hplus)]
          have HPL := Lib.hid hpl
          clear hpl
          have hcases : ((s[k].toNat : Int) == 43) = false ∨ (p = false ∧ ((s[k].toNat : Int) == 43) = true) := by
            by_cases h43 : s[k] = 43
            · refine .inr ⟨?_, by rw [h43]; rfl⟩
              cases p with
              | false => rfl
              | true => exact absurd ⟨rfl, h43⟩ hplus
            · refine .inl ?_
              have : s[k].toNat ≠ 43 := fun h => h43 (Pct.u8_eq h)
              simp; omega
          clear hplus
          have hx := extract_one s k hlt
          have a1 := fun w' : World => run_add_S w' acc [s[k]] (by simp; omega)
          rcases hcases with hq' | ⟨rfl, hq'⟩
          all_goals
            go_wp2
            obtain ⟨hg, hgc⟩ := HG.out
            have hp := hinv.other hg (fun h => HC.out (hgc.symm.trans h))
            rw [hgc, HPL.out] at hp
            go_roundw
            case rel => exact ⟨k + 1, acc ++ [s[k]], by omega, by go_num, rfl, by simp; omega, hp, hb⟩
            case measure => simp [intOf]; omega
    · go_wp2
      go_ret2
      exact ⟨ret_dec (hinv.done (by rw [HSL.out]; omega)), hb⟩

end Go.Proofs.YtbpeohadgplaaaaDoor
