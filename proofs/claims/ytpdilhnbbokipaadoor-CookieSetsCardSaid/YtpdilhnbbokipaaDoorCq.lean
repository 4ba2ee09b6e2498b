/- The statements' awake answers true, where the variables of the library that it reaches read as their texts lay them. -/
import Derived.Test.YtpdilhnbbokipaaDoorCe
import Derived.Test.YtpdilhnbbokipaaDoorCj
import Derived.Test.YtpdilhnbbokipaaDoorCp
import Derived.Laws.OwnMore
namespace Go.Proofs.YtpdilhnbbokipaaDoor
set_option maxRecDepth 8000
open Go.RowKit

abbrev ckA : Ck.C := ⟨[67, 65, 83, 84, 71, 67], [84, 71, 84, 45, 49], [47, 99, 97, 115], -1, true, true⟩
abbrev ckB : Ck.C := ⟨[97], [49], [47, 99, 97, 115], -1, false, false⟩
abbrev hdB : List UInt8 := [97, 61, 49, 59, 32, 98, 61, 59, 32, 59, 99, 61, 120, 61, 121]
abbrev prB : List Pct.PairL := [([97], [49]), ([98], []), ([99], [120, 61, 121])]
theorem setA : setRes ckA = .returned (.tuple #[.string ⟨#[67, 65, 83, 84, 71, 67, 61, 84, 71, 84, 45, 49, 59, 32, 80, 97, 116, 104, 61, 47, 99, 97, 115, 59, 32, 83, 101, 99, 117, 114, 101, 59, 32, 72, 116, 116, 112, 79, 110, 108, 121]⟩, .int .i64 0]) := by
  have h : Ck.right ckA = true := by decide +kernel
  unfold setRes
  rw [if_pos h]
  rfl
theorem sentB : Ck.sent hdB = .ok prB := by
  have h : (match Ck.sent hdB with | .ok l => decide (l = prB) | .error _ => false) = true := by decide +kernel
  cases hs : Ck.sent hdB with
  | ok l => rw [hs] at h; simp only [decide_eq_true_eq] at h; rw [h]
  | error n => rw [hs] at h; cases h
theorem putEB : Ck.putE [] ckB = 0 := by decide +kernel
theorem putB : Ck.put [] ckB = [ckB] := by decide +kernel
theorem pairsB1 : Ck.pairs [ckB] [47, 99, 97, 115, 47, 108, 111, 103, 105, 110] false = [([97], [49])] := by decide +kernel
theorem pairsB2 : Ck.pairs [ckB] [47, 99, 97, 115, 116, 108, 101] false = [] := by decide +kernel
theorem smallB : SmallAll [ckB] := by
  intro c hc
  rw [List.mem_singleton] at hc
  subst hc
  exact ⟨by decide, by decide, by decide⟩

set_option maxHeartbeats 1600000 in
theorem awake_any (w : World) (he : EnvC w) : Calls Tryd.prog 9 #[] w (AwakePost w) := by
  go_enter Tryd.func9, Tryd.ntmps9
  go_wp2_with fail
  refine (set_any ckA _ he ⟨by decide, by decide, by decide⟩).mono ?_
  rintro e w1 ⟨rfl, hb1⟩
  rw [setA]
  go_wp2_with fail
  refine (sent_any hdB w1 (by decide)).mono ?_
  rintro e w2 hp
  rw [sentB] at hp
  obtain ⟨v, rfl, hrow2, hb2⟩ := hp
  obtain ⟨A, cap, rfl⟩ := hrow2.form
  go_wp2_with fail
  refine (new_any w2).mono ?_
  rintro e w3 ⟨rfl, hj3, hb3⟩
  have hrow3 := own_below hrow2 hb3
  clear hrow2
  go_wp2_with fail
  refine (put_any w2.heap.size [] ckB w3 hj3 ⟨by decide, by decide, by decide⟩ (by decide)).mono ?_
  rintro e w4 ⟨rfl, hj4, hbut⟩
  rw [putEB]
  rw [putB] at hj4
  obtain ⟨o3, ho3⟩ := hj3.blk
  have hrow4 := own_but hrow3 hbut ho3 (by decide)
  have hb4 : Below w2.heap.size w3 w4 := hbut.below (Nat.le_refl _) hb3.size
  have hbw4 : Below w.heap.size w w4 := hb1.trans ((hb2.mono hb1.size).trans (((hb3.mono (Nat.le_refl _)).trans hb4).mono (Nat.le_trans hb1.size hb2.size)))
  clear hrow3 ho3 hj3 hbut hb4 hb3 hb2 hb1
  go_wp2_with fail
  refine (jarPairs_any w2.heap.size [ckB] [47, 99, 97, 115, 47, 108, 111, 103, 105, 110] false w4 hj4 (by decide) smallB).mono ?_
  rintro e w5 ⟨v5, rfl, hr5, hb5⟩
  rw [pairsB1] at hr5
  obtain ⟨A5, cap5, rfl⟩ := hr5.form
  have hrow5 := own_below hrow4 hb5
  have hj5 := hj4.below hb5
  clear hj4 hrow4 hr5
  go_wp2_with fail
  refine (jarPairs_any w2.heap.size [ckB] [47, 99, 97, 115, 116, 108, 101] false w5 hj5 (by decide) smallB).mono ?_
  rintro e w6 ⟨v6, rfl, hr6, hb6⟩
  rw [pairsB2] at hr6
  obtain ⟨A6, cap6, rfl⟩ := hr6.form
  have hrow6 := own_below hrow5 hb6
  have hbw6 : Below w.heap.size w w6 := hbw4.trans ((hb5.trans (hb6.mono hb5.size)).mono hbw4.size)
  clear hj5 hrow5 hr6 hb5 hb6 hbw4
  have hlit : PRow 0 (w6.alloc (.cells #[.string ⟨#[97]⟩, .string ⟨#[49]⟩, .string ⟨#[98]⟩, .string ⟨#[]⟩, .string ⟨#[99]⟩, .string ⟨#[120, 61, 121]⟩] 41)) (.slice (some ⟨w6.heap.size, 0, none⟩) 3 3) prB := World.ownsRow_lit w6 _ 3 (Nat.zero_le _) (by unfold maxLen; omega) rfl
  have hown6 := hrow6.alloc (.cells #[.string ⟨#[97]⟩, .string ⟨#[49]⟩, .string ⟨#[98]⟩, .string ⟨#[]⟩, .string ⟨#[99]⟩, .string ⟨#[120, 61, 121]⟩] 41)
  have hbw7 : Below w.heap.size w (w6.alloc (.cells #[.string ⟨#[97]⟩, .string ⟨#[49]⟩, .string ⟨#[98]⟩, .string ⟨#[]⟩, .string ⟨#[99]⟩, .string ⟨#[120, 61, 121]⟩] 41)) := hbw6.alloc hbw6.size _
  have hP : PReads _ _ _ prB := PRow.reads hown6
  have hcall := pairs_any _ _ prB prB _ hP hlit.reads (by decide)
  rw [show decide (prB = prB) = true from by simp] at hcall
  clear hP hown6 hlit hrow6
  go_wp2_with (go_at_call 13; refine hcall.mono ?_; rintro e w8 ⟨rfl, n8, rfl⟩)
  go_ret
  exact ⟨rfl, below_drewN hbw7 n8⟩
end Go.Proofs.YtpdilhnbbokipaaDoor
