/- The statement CookieJars answers true, for any slice of cookies, any path, with or without secure, where the variables of the library that it reaches read as their texts lay them. -/
import Derived.Test.YtpdilhnbbokipaaDoorCq
import Derived.Test.YtpdilhnbbokipaaDoorCx
namespace Go.Proofs.YtpdilhnbbokipaaDoor
set_option maxRecDepth 8000
open Go.RowKit

theorem At6.all {w : World} {b off : Nat} {c : Ck.C} (h : At6 w b off c) : w.cell? ⟨b, off, none⟩ = some (.string (S c.name)) ∧ w.cell? ⟨b, off + 1, none⟩ = some (.string (S c.val)) ∧ w.cell? ⟨b, off + 2, none⟩ = some (.string (S c.path)) ∧ w.cell? ⟨b, off + 3, none⟩ = some (.int .i64 c.age) ∧ w.cell? ⟨b, off + 4, none⟩ = some (.bool c.sec) ∧ w.cell? ⟨b, off + 5, none⟩ = some (.bool c.http) :=
  ⟨h.c0, h.c1, h.c2, h.c3, h.c4, h.c5⟩
theorem put_mem {l : List Ck.C} {c x : Ck.C} (h : x ∈ Ck.put l c) : x ∈ l ∨ x = c := by
  have hr : ∀ y, y ∈ Ck.rest l c → y ∈ l := fun y hy => (List.mem_filter.1 hy).1
  unfold Ck.put at h
  split at h
  · split at h
    · exact .inl (hr x h)
    · split at h
      · exact .inl h
      · rw [List.mem_append, List.mem_singleton] at h
        rcases h with h | h
        · exact .inl (hr x h)
        · exact .inr h
  · exact .inl h
theorem small_put {l : List Ck.C} {c : Ck.C} (hl : SmallAll l) (hc : Small c) : SmallAll (Ck.put l c) := by
  intro x hx
  rcases put_mem hx with h | h
  · exact hl x h
  · rw [h]; exact hc
theorem fewC_small {c : Ck.C} (h : fewC c = true) : Small c := by
  obtain ⟨h1, h2, h3⟩ := fewC_is h
  exact ⟨by omega, by omega, by omega⟩
theorem CCells.at_below {w w' : World} {B : Nat} {b off : Nat} {c : Ck.C} (h : At6 w b off c) (hb : Below B w w') (hB : b < B) : At6 w' b off c :=
  fun i u hu => (hb.cell (p := ⟨b, off + i, none⟩) hB).trans (h i u hu)

/-- What the statement keeps while cookies are put. -/
structure JInv (W : World) (b : Nat) (A : Option Addr) (cap : Nat) (m : List Ck.C) (wr : World) : Prop where
  jar : JarAt wr b m
  row : CRow W.heap.size wr (.slice A m.length cap) m
  few : m.length ≤ 20
  small : SmallAll m
  below : Below W.heap.size W wr

set_option maxHeartbeats 3200000 in
theorem cookieJars_any (A : Option Addr) (cap : Nat) (l : List Ck.C) (p : ByteArray) (secure : Bool) (W : World) (he : EnvC W) (hl : CCells W W.heap.size A l) (hm : l.length ≤ 9223372036854775807) :
    Calls Tryd.prog 7 #[.slice A l.length cap, .string p, .bool secure] W (AwakePost W) := by
  obtain ⟨path, rfl⟩ : ∃ t, p = S t := ⟨p.data.toList, rfl⟩
  have HCC := Lib.hid hl
  clear hl
  go_enter Tryd.func7, Tryd.ntmps7
  go_wp2_with fail
  refine (awake_any W he).mono ?_
  rintro e w ⟨rfl, hb⟩
  have hbs := hb.size
  go_wp2_with fail
  refine (new_any w).mono ?_
  rintro e w1 ⟨rfl, hj1, hb1⟩
  have hW1 : Below W.heap.size W w1 := hb.trans (hb1.mono hbs)
  by_cases h50 : l.length ≤ 50
  · have h50' : (l.length : Int) ≤ 50 := by omega
    by_cases hp : (S path).size ≤ 100
    · have hpl : path.length ≤ 100 := hp
      have HJ0 := Lib.hid (show JInv W w.heap.size none 0 [] w1 from ⟨hj1, World.ownsRow_nil _ _ _ _, by simp, (fun c hc => by cases hc), hW1⟩)
      clear hj1 hW1 hb1 hb
      go_wp2
      go_loopw [9, 10] (fun v i wr => ∃ (k : Nat) (m : List Ck.C) (A' : Option Addr) (cap' : Nat), k ≤ l.length ∧ i = .int .i64 k ∧ v = .slice A' m.length cap' ∧ JInv W w.heap.size A' cap' m wr) (fun _ i _ => l.length - (intOf i).toNat)
      case atStart => exact ⟨0, [], none, 0, Nat.zero_le _, rfl, rfl, HJ0.out⟩
      case round =>
        obtain ⟨k, m, A', cap', hk, rfl, rfl, hinv⟩ := hrel
        obtain ⟨hjar, hrow, hm20, hsm, hbw⟩ := hinv
        have HSM := Lib.hid hsm
        clear hsm
        have hWs := hbw.size
        by_cases hlt : k < l.length
        · obtain ⟨g, off, rfl, hbb, h6⟩ := HCC.out.at6 k hlt
          obtain ⟨x, hx⟩ : ∃ x, x = l[k] := ⟨_, rfl⟩
          rw [← hx] at h6
          clear hx
          have H6 := Lib.hid h6
          have n0 : (0 : Int) ≤ (k : Int) := by omega
          have n1 : (k : Int) < (l.length : Int) := by omega
          obtain ⟨q0, q1, q2, q3, q4, q5⟩ := (CCells.at_below h6 hbw hbb).all
          clear h6
          have hF := refFewC_any x wr
          go_wp2_with fail
          refine hF.mono ?_
          rintro e w2 ⟨rfl, hb2⟩
          have hbw2 : Below W.heap.size W w2 := hbw.trans (hb2.mono hWs)
          have hjar2 := hjar.below hb2
          have hrow2 := own_below hrow hb2
          clear q0 q1 q2 q3 q4 q5 hF hjar hrow
          cases hfew : fewC x with
          | false =>
            clear hfew
            go_wp2
            go_ret
            exact ⟨rfl, hbw2⟩
          | true =>
            have HX := Lib.hid (fewC_small hfew)
            clear hfew
            obtain ⟨q0, q1, q2, q3, q4, q5⟩ := (CCells.at_below H6.out hbw2 hbb).all
            have hP := put_any w.heap.size m x w2 hjar2 HX.out hm20
            obtain ⟨o2, ho2⟩ := hjar2.blk
            go_wp2_with fail
            refine hP.mono ?_
            rintro e w3 ⟨rfl, hjar3, hbut⟩
            have hrow3 := own_but hrow2 hbut ho2 (by decide)
            have hbw3 : Below W.heap.size W w3 := hbw2.trans (hbut.below hbs hbw2.size)
            have hWs3 := hbw3.size
            clear q0 q1 q2 q3 q4 q5 hP ho2 hrow2 hjar2 hbut
            obtain ⟨q0, q1, q2, q3, q4, q5⟩ := (CCells.at_below H6.out hbw3 hbb).all
            have hR := refPut_any W.heap.size (.slice A' m.length cap') m x w3 hrow3 hWs3 HX.out hm20
            have HPL := Lib.hid (Ck.put_len hm20 x)
            have HPS := Lib.hid (small_put HSM.out HX.out)
            unfold PutPost at hR
            generalize Ck.putE m x = en at hR ⊢
            generalize Ck.put m x = m2 at hR hjar3 HPL HPS
            go_wp2_with fail
            refine hR.mono ?_
            rintro e w4 ⟨v4, rfl, hrow4, hb4⟩
            obtain ⟨A4, cap4, rfl⟩ := hrow4.form
            have hjar4 := hjar3.below hb4
            have hbw4 : Below W.heap.size W w4 := hbw3.trans (hb4.mono hWs3)
            have hWs4 := hbw4.size
            have hm2 := HPL.out
            clear q0 q1 q2 q3 q4 q5 hR hjar3 hrow3
            have hA := all_any w.heap.size m2 w4 hjar4 (by omega)
            go_wp2_with fail
            refine hA.mono ?_
            rintro e w5 ⟨v5, rfl, hrow5, hb5⟩
            have hrow45 := own_below hrow4 hb5
            have hbw5 : Below W.heap.size W w5 := hbw4.trans (hb5.mono hWs4)
            have hjar5 := hjar4.below hb5
            have hC := cookies_any v5 (.slice A4 m2.length cap4) m2 m2 w5 hrow5.reads (CRow.reads hrow45) (by omega)
            rw [show decide (m2 = m2) = true from by simp] at hC
            clear hA hjar4 hrow4 hrow5
            go_wp2_with fail
            refine hC.mono ?_
            rintro e w6 ⟨rfl, n6, rfl⟩
            have hD : Below w5.heap.size w5 (w5.drewN n6) := below_drewN (Below.refl _ _) _
            have hinv6 : JInv W w.heap.size A4 cap4 m2 (w5.drewN n6) := ⟨hjar5.below hD, own_below hrow45 hD, hm2, HPS.out, below_drewN hbw5 _⟩
            generalize w5.drewN n6 = w7 at hinv6 ⊢
            clear hC hD hjar5 hrow45 hbw5
            go_wp2
            go_roundw
            case rel => exact ⟨k + 1, m2, A4, cap4, by omega, by go_num, rfl, hinv6⟩
            case measure => simp [intOf]; omega
        · have hJP := jarPairs_any w.heap.size m path secure wr hjar hm20 HSM.out
          generalize hz : Ck.pairs m path secure = z at hJP
          have HZ := Lib.hid hz
          clear hz
          go_wp2_with fail
          refine hJP.mono ?_
          rintro e w2 ⟨v2, rfl, hr2, hb2⟩
          have hrow2 := own_below hrow hb2
          have hbw2 : Below W.heap.size W w2 := hbw.trans (hb2.mono hWs)
          have hWs2 := hbw2.size
          have hcc2 : CCells w2 w2.heap.size A' m := by
            obtain ⟨A9, cap9, hv9, hcc9⟩ := CRow.reads hrow2
            injection hv9 with h1 h2 h3
            subst h1
            exact hcc9
          have hRP := refPairs_any A' cap' m path secure w2 hcc2 hm20 HSM.out (by omega)
          rw [HZ.out] at hRP
          clear hJP hrow
          go_wp2_with fail
          refine hRP.mono ?_
          rintro e w3 ⟨v3, rfl, hr3, hb3⟩
          have hr23 := own_below hr2 hb3
          have hbw3 : Below W.heap.size W w3 := hbw2.trans (hb3.mono hWs2)
          have hzl : z.length ≤ 20 := by
            rw [← HZ.out]
            exact Nat.le_trans (Ck.pairs_len m path secure) hm20
          have hPP := pairs_any v2 v3 z z w3 (PRow.reads hr23) hr3.reads (by omega)
          rw [show decide (z = z) = true from by simp] at hPP
          clear hRP hr2 hr3 hr23 hcc2 hrow2
          go_wp2_with fail
          refine hPP.mono ?_
          rintro e w4 ⟨rfl, n4, rfl⟩
          have hbw4 : Below W.heap.size W (w3.drewN n4) := below_drewN hbw3 _
          generalize w3.drewN n4 = w5 at hbw4 ⊢
          go_wp2
          go_ret
          exact ⟨rfl, hbw4⟩
    · have hp' : (100 : Int) < ((S path).size : Int) := by omega
      clear hp
      go_wp2
      go_ret
      exact ⟨rfl, hW1⟩
  · have h50' : (50 : Int) < (l.length : Int) := by omega
    clear h50
    go_wp2
    go_ret
    exact ⟨rfl, hW1⟩
end Go.Proofs.YtpdilhnbbokipaaDoor
