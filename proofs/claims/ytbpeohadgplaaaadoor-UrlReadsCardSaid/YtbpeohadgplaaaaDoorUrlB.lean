/- What the document's own find and Digits of URLs answer, for any text of at most 2^30 bytes and any number from 0 on. -/
import Derived.Test.YtbpeohadgplaaaaDoorUrlA
namespace Go.Proofs.YtbpeohadgplaaaaDoor
set_option maxRecDepth 8000
open Go.RowKit

/-- The first place, from one on, of a byte that is none of those wanted; else the end. -/
def findP (p : UInt8 → Bool) (l : List UInt8) (k : Nat) : Nat := k + ((l.drop k).takeWhile p).length
def noneOf (o : List UInt8) (c : UInt8) : Bool := !o.contains c
theorem findP_hit (p : UInt8 → Bool) (l : List UInt8) (k : Nat) (h : k < l.length) (hp : p l[k] = false) : findP p l k = k := by
  unfold findP
  rw [List.drop_eq_getElem_cons h, List.takeWhile_cons_of_neg (by simpa using hp)]
  rfl
theorem findP_next (p : UInt8 → Bool) (l : List UInt8) (k : Nat) (h : k < l.length) (hp : p l[k] = true) : findP p l k = findP p l (k + 1) := by
  unfold findP
  rw [List.drop_eq_getElem_cons h, List.takeWhile_cons_of_pos hp, List.length_cons]
  omega
theorem findP_end (p : UInt8 → Bool) (l : List UInt8) (k : Nat) (h : l.length = k) : findP p l k = k := by
  unfold findP
  rw [List.drop_of_length_le (by omega)]
  rfl
theorem noneOf_no {o : List UInt8} {c : UInt8} (h : ∀ (j : Nat) (hj : j < o.length), o[j] ≠ c) : noneOf o c = true := by
  unfold noneOf
  rw [Bool.not_eq_true', ← Bool.not_eq_true, List.contains_iff_mem]
  intro hm
  obtain ⟨j, hj, e⟩ := List.getElem_of_mem hm
  exact h j hj e
theorem noneOf_yes {o : List UInt8} {c : UInt8} (j : Nat) (hj : j < o.length) (h : o[j] = c) : noneOf o c = false := by
  unfold noneOf
  rw [Bool.not_eq_false', List.contains_iff_mem, ← h]
  exact List.getElem_mem hj
theorem ret_i64 {a b : Int} (h : a = b) : Ending.returned (.int .i64 a) = .returned (.int .i64 b) := by rw [h]

set_option maxHeartbeats 400000 in
theorem refFind_any (s o : ByteArray) (k0 : Nat) (w : World) (hk0 : k0 ≤ s.size) (hs : s.size ≤ 1073741824) (ho : o.size ≤ 100) :
    Calls Tryd.prog 47 #[.string s, .int .i64 k0, .string o] w (Told w (.returned (.int .i64 (findP (noneOf o.data.toList) s.data.toList k0 : Nat)))) := by
  go_enter Tryd.func47, Tryd.ntmps47
  go_wp2
  go_loopw [7] (fun i wr => ∃ k : Nat, k ≤ s.size ∧ i = .int .i64 k ∧ findP (noneOf o.data.toList) s.data.toList k0 = findP (noneOf o.data.toList) s.data.toList k ∧ Below w.heap.size w wr) (fun i _ => s.size - (intOf i).toNat)
  case atStart => exact ⟨k0, hk0, rfl, rfl, Below.refl _ _⟩
  case round =>
    obtain ⟨k, hk, rfl, hf, hb⟩ := hrel
    have HF := Lib.hid hf
    clear hf
    by_cases hlt : k < s.size
    · have HG := Lib.hid (show ∃ h : k < s.data.toList.length, s.data.toList[k] = s[k] from ⟨by simpa using hlt, rfl⟩)
      go_wp2
      go_loopw [8] (fun i wr => ∃ j : Nat, j ≤ o.size ∧ i = .int .i64 j ∧ (∀ (m : Nat) (hm : m < o.data.toList.length), m < j → o.data.toList[m] ≠ s[k]) ∧ Below w.heap.size w wr) (fun i _ => o.size - (intOf i).toNat)
      case atStart => exact ⟨0, Nat.zero_le _, rfl, fun m _ h => absurd h (by omega), hb⟩
      case round =>
        obtain ⟨j, hj, rfl, hn, hb⟩ := hrel
        have HN := Lib.hid hn
        clear hn
        by_cases hjl : j < o.size
        · have HJ := Lib.hid (show ∃ h : j < o.data.toList.length, o.data.toList[j] = o[j] from ⟨by simpa using hjl, rfl⟩)
          by_cases hc : s[k] = o[j]
          · have hc' : ((s[k].toNat : Int) == (o[j].toNat : Int)) = true := by rw [hc]; simp
            have HC := Lib.hid hc
            clear hc
            go_wp2
            go_quiet (fail)
            go_wp2
            go_ret
            obtain ⟨hg, hgc⟩ := HG.out
            obtain ⟨hh, hhc⟩ := HJ.out
            refine ⟨ret_i64 ?_, below_drewN hb _⟩
            rw [HF.out, findP_hit _ _ k hg (noneOf_yes j hh (by rw [hhc, hgc, HC.out]))]
          · have hc' : ((s[k].toNat : Int) == (o[j].toNat : Int)) = false := by
              have : s[k].toNat ≠ o[j].toNat := fun h => hc (Pct.u8_eq h)
              simp; omega
            have HC := Lib.hid hc
            clear hc
            go_wp2
            go_quiet (fail)
            go_wp2
            go_roundw
            case rel =>
              refine ⟨j + 1, by omega, by go_num, fun m hm hmj => ?_, below_drewN hb _⟩
              by_cases e : m = j
              · subst e
                obtain ⟨hh, hhc⟩ := HJ.out
                rw [hhc]
                exact fun h => HC.out h.symm
              · exact HN.out m hm (by omega)
            case measure => simp [intOf]; omega
        · go_wp2
          go_roundw
          case rel =>
            obtain ⟨hg, hgc⟩ := HG.out
            refine ⟨k + 1, by omega, by go_num, ?_, hb⟩
            rw [HF.out]
            refine findP_next _ _ k hg (noneOf_no fun m hm => ?_)
            rw [hgc]
            have : o.data.toList.length = o.size := by simp
            exact HN.out m hm (by omega)
          case measure => simp [intOf]; omega
    · go_wp2
      go_ret
      refine ⟨ret_i64 ?_, hb⟩
      rw [HF.out, findP_end _ _ k (by simp; omega)]
      omega
end Go.Proofs.YtbpeohadgplaaaaDoor
