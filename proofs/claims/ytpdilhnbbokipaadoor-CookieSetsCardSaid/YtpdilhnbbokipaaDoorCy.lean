/- What package cookie's Read answers, for any text of at most 2^20 bytes, where the variables of strconv that it reaches read as their texts lay them. -/
import Derived.Test.YtpdilhnbbokipaaDoorCs
import Derived.Test.YtpdilhnbbokipaaDoorCl
namespace Go.Proofs.YtpdilhnbbokipaaDoor
set_option maxRecDepth 8000
open Go.RowKit

def readRes (o : Option Ck.C) : Ending :=
  match o with
  | some c => .returned (.tuple #[cV c, .int .i64 0])
  | none => .returned (.tuple #[cV zeroC, .int .i64 10])
theorem readRes_some {o : Option Ck.C} {c : Ck.C} (h : o = some c) : Ending.returned (.tuple #[cV c, .int .i64 0]) = readRes o := by rw [h]; rfl
theorem readRes_none {o : Option Ck.C} (h : o = none) : Ending.returned (.tuple #[.agg #[.string ⟨#[]⟩, .string ⟨#[]⟩, .string ⟨#[]⟩, .int .i64 0, .bool false, .bool false], .int .i64 10]) = readRes o := by rw [h]; rfl
theorem guess_small {s : List UInt8} (hs : s.length ≤ 1048576) : Small2 (Ck.guess s) := by
  have h1 := cut_len s Ck.pathM
  have h2 := cutAt_len 61 (Lib.cut s Ck.pathM).1
  have h3 := trimSuffix_len (Lib.cut s Ck.pathM).2.1 Ck.httpM
  have h4 := trimSuffix_len (Lib.trimSuffix (Lib.cut s Ck.pathM).2.1 Ck.httpM) Ck.secM
  have h5 := cut_len (Lib.trimSuffix (Lib.trimSuffix (Lib.cut s Ck.pathM).2.1 Ck.httpM) Ck.secM) Ck.ageM
  unfold Small2 Ck.guess
  simp only
  omega

set_option maxHeartbeats 3200000 in
theorem read_any (s : List UInt8) (w : World) (he : EnvE w) (hs : s.length ≤ 1048576) :
    Calls Tryd.prog 19 #[.string (S s)] w fun e w' => e = readRes (Ck.read s) ∧ Below w.heap.size w w' := by
  have HSM := Lib.hid (guess_small hs)
  have HR := Lib.hid (show Ck.right (Ck.guess s) = true → Ck.set (Ck.guess s) = s → Ck.read s = some (Ck.guess s) from fun h1 h2 => by unfold Ck.read; rw [if_pos ⟨h1, h2⟩])
  have HN1 := Lib.hid (show Ck.right (Ck.guess s) = false → Ck.read s = none from fun h1 => by unfold Ck.read; rw [if_neg (by rw [h1]; simp)])
  have HN2 := Lib.hid (show Ck.set (Ck.guess s) ≠ s → Ck.read s = none from fun h1 => by unfold Ck.read; rw [if_neg (fun h => h1 h.2)])
  have hb0 : Below w.heap.size w (w.alloc (.cells #[.string ⟨#[]⟩, .string ⟨#[]⟩, .string ⟨#[]⟩, .int .i64 0, .bool false, .bool false] 32)) := (Below.refl _ _).alloc (Nat.le_refl _) _
  have br0 := Blk6.new w zeroC
  have hs0 : w.heap.size < (w.alloc (.cells #[.string ⟨#[]⟩, .string ⟨#[]⟩, .string ⟨#[]⟩, .int .i64 0, .bool false, .bool false] 32)).heap.size := by simp
  go_enter Tryd.func19, Tryd.ntmps19
  go_upto_region 1 with fail
  have br0' : Blk6 (w.alloc (.cells #[.string ⟨#[]⟩, .string ⟨#[]⟩, .string ⟨#[]⟩, .int .i64 0, .bool false, .bool false] 32)) w.heap.size zeroC := br0
  clear br0
  generalize (w.alloc (.cells #[.string ⟨#[]⟩, .string ⟨#[]⟩, .string ⟨#[]⟩, .int .i64 0, .bool false, .bool false] 32)) = w1 at hb0 br0' hs0 ⊢
  go_wp2_with fail
  refine (guess_any s w1 (he.next hb0) hs).mono ?_
  rintro e w2 ⟨rfl, hb2⟩
  have br2 := br0'.below hb2 hs0
  have hbw2 : Below w.heap.size w w2 := hb0.trans (hb2.mono (Nat.le_of_lt hs0))
  clear hb2 hb0 br0' hs0
  obtain ⟨c, hc⟩ : ∃ c, c = Ck.guess s := ⟨_, rfl⟩
  rw [← hc] at HSM HR HN1 HN2 ⊢
  clear hc
  go_upto_region 2 with fail
  have hb3 : Below w2.heap.size w2 (w2.alloc (.cells #[.string (S c.name), .string (S c.val), .string (S c.path), .int .i64 c.age, .bool c.sec, .bool c.http] 32)) := (Below.refl _ _).alloc (Nat.le_refl _) _
  have bc3 := Blk6.new w2 c
  have hs3 : w2.heap.size < (w2.alloc (.cells #[.string (S c.name), .string (S c.val), .string (S c.path), .int .i64 c.age, .bool c.sec, .bool c.http] 32)).heap.size := by simp
  generalize (w2.alloc (.cells #[.string (S c.name), .string (S c.val), .string (S c.path), .int .i64 c.age, .bool c.sec, .bool c.http] 32)) = w3 at hb3 bc3 hs3 ⊢
  have br3 := br2.below hb3 br2.lt
  have hbw3 : Below w.heap.size w w3 := hbw2.trans (hb3.mono hbw2.size)
  clear br2 hb3
  obtain ⟨d0, d1, d2, d3, d4, d5⟩ := bc3.all
  have hS := set_any c w3 ((he.next hbw3).env) HSM.out
  unfold setRes at hS
  go_wp2_with fail
  refine hS.mono ?_
  rintro e w4 ⟨he4, hb4⟩
  have br4 := br3.below hb4 br3.lt
  have bc4 := bc3.below hb4 bc3.lt
  have hbw4 : Below w.heap.size w w4 := hbw3.trans (hb4.mono hbw3.size)
  clear d0 d1 d2 d3 d4 d5 br3 bc3 hb4 hbw3 hbw2 hs3 hS
  obtain ⟨d0, d1, d2, d3, d4, d5⟩ := bc4.all
  obtain ⟨z0, z1, z2, z3, z4, z5⟩ := br4.all
  have y0 := br4.frozen 0
  have y1 := br4.frozen 1
  have y2 := br4.frozen 2
  have y3 := br4.frozen 3
  have y4 := br4.frozen 4
  have y5 := br4.frozen 5
  have HZB := Lib.hid ((((((hbw4.setCell (p := ⟨w.heap.size, 0, none⟩) (Nat.le_refl _) (.string ⟨#[]⟩)).setCell (p := ⟨w.heap.size, 1, none⟩) (Nat.le_refl _) (.string ⟨#[]⟩)).setCell (p := ⟨w.heap.size, 2, none⟩) (Nat.le_refl _) (.string ⟨#[]⟩)).setCell (p := ⟨w.heap.size, 3, none⟩) (Nat.le_refl _) (.int .i64 0)).setCell (p := ⟨w.heap.size, 4, none⟩) (Nat.le_refl _) (.bool false)).setCell (p := ⟨w.heap.size, 5, none⟩) (Nat.le_refl _) (.bool false))
  have HCB := Lib.hid ((((((hbw4.setCell (p := ⟨w.heap.size, 0, none⟩) (Nat.le_refl _) (.string (S c.name))).setCell (p := ⟨w.heap.size, 1, none⟩) (Nat.le_refl _) (.string (S c.val))).setCell (p := ⟨w.heap.size, 2, none⟩) (Nat.le_refl _) (.string (S c.path))).setCell (p := ⟨w.heap.size, 3, none⟩) (Nat.le_refl _) (.int .i64 c.age)).setCell (p := ⟨w.heap.size, 4, none⟩) (Nat.le_refl _) (.bool c.sec)).setCell (p := ⟨w.heap.size, 5, none⟩) (Nat.le_refl _) (.bool c.http))
  clear br4 bc4
  cases hr : Ck.right c with
  | false =>
    rw [if_neg (by rw [hr]; simp)] at he4
    subst he4
    have HNO := Lib.hid (HN1.out hr)
    clear hr
    go_wp2
    exact bodyPost_ret (v := .tuple #[.agg #[.string ⟨#[]⟩, .string ⟨#[]⟩, .string ⟨#[]⟩, .int .i64 0, .bool false, .bool false], .int .i64 10]) (by simp [results, Tryd.results19, go_sem, z0, z1, z2, z3, z4, z5]) rfl ⟨readRes_none HNO.out, HZB.out⟩
  | true =>
    rw [if_pos hr] at he4
    subst he4
    by_cases hx : Ck.set c = s
    · have HYES := Lib.hid (HR.out hr hx)
      have e1 : ((S (Ck.set c)).toList == (S s).toList) = true := by rw [beq_S]; simpa using hx
      have e2 : ((S (Ck.set c)).toList != (S s).toList) = false := by unfold bne; rw [e1]; rfl
      clear hr hx
      generalize Ck.set c = x at e1 e2 ⊢
      go_wp2
      exact bodyPost_ret (v := .tuple #[.agg #[.string (S c.name), .string (S c.val), .string (S c.path), .int .i64 c.age, .bool c.sec, .bool c.http], .int .i64 0]) (by simp [results, Tryd.results19, go_sem, z0, z1, z2, z3, z4, z5]) rfl ⟨readRes_some HYES.out, HCB.out⟩
    · have HNO := Lib.hid (HN2.out hx)
      have e1 : ((S (Ck.set c)).toList == (S s).toList) = false := by rw [beq_S]; simpa using hx
      have e2 : ((S (Ck.set c)).toList != (S s).toList) = true := by unfold bne; rw [e1]; rfl
      clear hr hx
      generalize Ck.set c = x at e1 e2 ⊢
      go_wp2
      exact bodyPost_ret (v := .tuple #[.agg #[.string ⟨#[]⟩, .string ⟨#[]⟩, .string ⟨#[]⟩, .int .i64 0, .bool false, .bool false], .int .i64 10]) (by simp [results, Tryd.results19, go_sem, z0, z1, z2, z3, z4, z5]) rfl ⟨readRes_none HNO.out, HZB.out⟩
end Go.Proofs.YtpdilhnbbokipaaDoor
