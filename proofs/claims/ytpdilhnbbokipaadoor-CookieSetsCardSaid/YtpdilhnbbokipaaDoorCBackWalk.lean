/- The statement CookieBack answers true, for any cookie and any text, where the variables of the library that it reaches read as their texts lay them. -/
import Derived.Test.YtpdilhnbbokipaaDoorCq
import Derived.Test.YtpdilhnbbokipaaDoorCx
import Derived.Test.YtpdilhnbbokipaaDoorCy
import Derived.Test.YtpdilhnbbokipaaDoorCkRef
namespace Go.Proofs.YtpdilhnbbokipaaDoor
set_option maxRecDepth 8000
open Go.RowKit

theorem fewC_small2 {c : Ck.C} (h : fewC c = true) : Small2 c := by
  obtain ⟨h1, h2, h3⟩ := fewC_is h
  exact ⟨by omega, by omega, by omega⟩
theorem set_len {c : Ck.C} (h : fewC c = true) (hr : Ck.right c = true) : (Ck.set c).length ≤ 1000 := by
  obtain ⟨h1, h2, h3⟩ := fewC_is h
  have ha := right_age hr
  have hd := dec_len c.age ha.2
  unfold Ck.set
  simp only [List.length_append]
  have e1 : (Ck.ageT c.age).length ≤ 110 := by
    unfold Ck.ageT
    split
    · simp
    · rw [List.length_append]; show 10 + _ ≤ _; omega
  have e2 : (Ck.secT c.sec).length ≤ 8 := by cases c.sec <;> decide
  have e3 : (Ck.httpT c.http).length ≤ 10 := by cases c.http <;> decide
  have e4 : Ck.pathM.length = 7 := rfl
  have e5 : ([61] : List UInt8).length = 1 := rfl
  omega
theorem small2_of_read {s : List UInt8} {c : Ck.C} (hs : s.length ≤ 1048576) (h : Ck.read s = some c) : Small2 c := by
  unfold Ck.read at h
  split at h
  · injection h with h
    rw [← h]
    exact guess_small hs
  · cases h
theorem zero_small : Small2 zeroC := ⟨by decide, by decide, by decide⟩
theorem zero_wrong : Ck.right zeroC = false := by decide +kernel
/-- What Read hands back: a cookie and a number. -/
theorem readRes_parts (o : Option Ck.C) : ∃ (x : Ck.C) (n : Nat), readRes o = .returned (.tuple #[cV x, .int .i64 (n : Int)]) ∧ (o = some x ∧ n = 0 ∨ o = none ∧ x = zeroC ∧ n = 10) := by
  cases o with
  | some c => exact ⟨c, 0, rfl, .inl ⟨rfl, rfl⟩⟩
  | none => exact ⟨zeroC, 10, rfl, .inr ⟨rfl, rfl, rfl⟩⟩
theorem setRes_parts (c : Ck.C) : ∃ (t : List UInt8) (n : Nat), setRes c = .returned (.tuple #[.string (S t), .int .i64 (n : Int)]) ∧ (Ck.right c = true ∧ t = Ck.set c ∧ n = 0 ∨ Ck.right c = false ∧ t = [] ∧ n = 1) := by
  unfold setRes
  cases h : Ck.right c with
  | true => exact ⟨Ck.set c, 0, by rw [if_pos rfl]; rfl, .inl ⟨rfl, rfl, rfl⟩⟩
  | false => exact ⟨[], 1, by rw [if_neg (by simp)]; rfl, .inr ⟨rfl, rfl, rfl⟩⟩

set_option maxHeartbeats 3200000 in
theorem cookieBack_any (c : Ck.C) (s0 : ByteArray) (W : World) (he : EnvE W) :
    Calls Tryd.prog 5 #[cV c, .string s0] W (AwakePost W) := by
  obtain ⟨s, rfl⟩ : ∃ t, s0 = S t := ⟨s0.data.toList, rfl⟩
  have b0 := Blk6.new W c
  have hb0 : Below W.heap.size W (W.alloc (.cells #[.string (S c.name), .string (S c.val), .string (S c.path), .int .i64 c.age, .bool c.sec, .bool c.http] 32)) := (Below.refl _ _).alloc (Nat.le_refl _) _
  have hs0 : W.heap.size < (W.alloc (.cells #[.string (S c.name), .string (S c.val), .string (S c.path), .int .i64 c.age, .bool c.sec, .bool c.http] 32)).heap.size := by simp
  go_enter Tryd.func5, Tryd.ntmps5
  go_upto_region 1 with fail
  generalize (W.alloc (.cells #[.string (S c.name), .string (S c.val), .string (S c.path), .int .i64 c.age, .bool c.sec, .bool c.http] 32)) = W0 at b0 hb0 hs0 ⊢
  have HB0 := Lib.hid b0
  have HE := Lib.hid (show ∀ w', Below W0.heap.size W0 w' → EnvE w' from fun w' h => he.next (hb0.trans (h.mono (Nat.le_of_lt hs0))))
  have HEND := Lib.hid (show ∀ w', Below W0.heap.size W0 w' → AwakePost W (.returned (.bool true)) w' from fun w' h => ⟨rfl, hb0.trans (h.mono (Nat.le_of_lt hs0))⟩)
  clear b0 hb0
  go_wp2_with fail
  refine (awake_any W0 (HE.out _ (Below.refl _ _)).env).mono ?_
  rintro e w1 ⟨rfl, hb1⟩
  obtain ⟨d0, d1, d2, d3, d4, d5⟩ := (HB0.out.below hb1 hs0).all
  go_wp2_with fail
  refine (refFewC_any c w1).mono ?_
  rintro e w2 ⟨rfl, hbx⟩
  have hb2 : Below W0.heap.size W0 w2 := hb1.trans (hbx.mono hb1.size)
  clear d0 d1 d2 d3 d4 d5 hbx hb1
  cases hfc : fewC c with
  | false =>
    clear hfc
    go_wp2
    go_ret
    exact HEND.out _ hb2
  | true =>
    by_cases h4 : (S s).size ≤ 400
    · have h4' : s.length ≤ 400 := h4
      have HS2 := Lib.hid (fewC_small2 hfc)
      have HSL := Lib.hid (show Ck.right c = true → (Ck.set c).length ≤ 1000 from set_len hfc)
      clear hfc
      obtain ⟨d0, d1, d2, d3, d4, d5⟩ := (HB0.out.below hb2 hs0).all
      go_wp2_with fail
      refine (right_any c w2 HS2.out.small).mono ?_
      rintro e w3 ⟨rfl, hbx⟩
      have hb3 : Below W0.heap.size W0 w3 := hb2.trans (hbx.mono hb2.size)
      clear d0 d1 d2 d3 d4 d5 hbx hb2
      obtain ⟨d0, d1, d2, d3, d4, d5⟩ := (HB0.out.below hb3 hs0).all
      obtain ⟨t, n, hres, hcase⟩ := setRes_parts c
      have hSet := set_any c w3 (HE.out _ hb3).env HS2.out
      rw [hres] at hSet
      have htl : t.length ≤ 1000 := by
        rcases hcase with ⟨h1, h2, _⟩ | ⟨_, h2, _⟩
        · rw [h2]; exact HSL.out h1
        · rw [h2]; simp
      have HCASE := Lib.hid hcase
      clear hres hcase
      go_wp2_with fail
      refine hSet.mono ?_
      rintro e w4 ⟨rfl, hbx⟩
      have hb4 : Below W0.heap.size W0 w4 := hb3.trans (hbx.mono hb3.size)
      clear d0 d1 d2 d3 d4 d5 hbx hb3 hSet
      obtain ⟨x, n2, hres2, hcase2⟩ := readRes_parts (Ck.read t)
      have hRead := read_any t w4 (HE.out _ hb4) (by omega)
      rw [hres2] at hRead
      have HCASE2 := Lib.hid hcase2
      clear hres2 hcase2
      go_wp2_with fail
      refine hRead.mono ?_
      rintro e w5 ⟨rfl, hbx⟩
      have hb5 : Below W0.heap.size W0 w5 := hb4.trans (hbx.mono hb4.size)
      clear hbx hb4 hRead
      go_upto_region 8 with fail
      have hb6 : Below W0.heap.size W0 (w5.alloc (.cells #[.string (S x.name), .string (S x.val), .string (S x.path), .int .i64 x.age, .bool x.sec, .bool x.http] 32)) := hb5.alloc hb5.size _
      have bx6 := Blk6.new w5 x
      generalize (w5.alloc (.cells #[.string (S x.name), .string (S x.val), .string (S x.path), .int .i64 x.age, .bool x.sec, .bool x.http] 32)) = w6 at hb6 bx6 ⊢
      obtain ⟨d0, d1, d2, d3, d4, d5⟩ := (HB0.out.below hb6 hs0).all
      obtain ⟨q0, q1, q2, q3, q4, q5⟩ := bx6.all
      have hgo : ∀ {Q : Prop}, (Ck.right c = true → n = 0 → n2 = 0 → x = c → Q) → (Ck.right c = false → n = 1 → Q) → Q := by
        intro Q h1 h2
        rcases HCASE.out with ⟨hr, ht, hn⟩ | ⟨hr, _, hn⟩
        · refine h1 hr hn ?_ ?_
          · rcases HCASE2.out with ⟨_, h⟩ | ⟨h, _⟩
            · exact h
            · rw [ht, Ck.read_set hr] at h; cases h
          · rcases HCASE2.out with ⟨h, _⟩ | ⟨h, _⟩
            · rw [ht, Ck.read_set hr] at h
              exact (Option.some.inj h).symm
            · rw [ht, Ck.read_set hr] at h; cases h
        · exact h2 hr hn
      obtain ⟨y, n3, hres3, hcase3⟩ := readRes_parts (Ck.read s)
      have HCASE3 := Lib.hid hcase3
      have HRES3 := Lib.hid hres3
      obtain ⟨t4, n4, hres4, hcase4⟩ := setRes_parts y
      have HRES4 := Lib.hid hres4
      have hy2 : Small2 y := by
        rcases hcase3 with ⟨h, _⟩ | ⟨_, h, _⟩
        · exact small2_of_read (by omega) h
        · rw [h]; exact zero_small
      have HY2 := Lib.hid hy2
      have HFIN := Lib.hid (show n3 = 10 ∨ (n3 = 0 ∧ n4 = 0 ∧ t4 = s) by
        rcases hcase3 with ⟨h, h3⟩ | ⟨_, _, h3⟩
        · obtain ⟨hr, hset⟩ := Ck.read_some h
          rcases hcase4 with ⟨_, h5, h6⟩ | ⟨h5, _⟩
          · exact .inr ⟨h3, h6, by rw [h5, hset]⟩
          · rw [hr] at h5; cases h5
        · exact .inl h3)
      clear hcase3 hcase4 hres3 hres4 hy2 HCASE3
      refine hgo ?_ ?_
      · intro hr hn hn2 hx
        subst hx
        rw [hr]
        have e1 : ((n : Int) != 0) = false := by rw [hn]; rfl
        have e2 : ((n2 : Int) != 0) = false := by rw [hn2]; rfl
        have hneq := fun w' : World => run_ne_cookie w' x x
        rw [cEq_self] at hneq
        have hgd := fun w' : World => run_eqGuard_agg (P := Tryd.prog) w' .neq 32 (.tmp 48) (.tmp 49) #[.string (S x.name), .string (S x.val), .string (S x.path), .int .i64 x.age, .bool x.sec, .bool x.http] #[.string (S x.name), .string (S x.val), .string (S x.path), .int .i64 x.age, .bool x.sec, .bool x.http] Tryd.guardC
        clear hr hn hn2 hgo
        go_upto_region 10 with fail
        clear hneq hgd e1 e2
        clear d0 d1 d2 d3 d4 d5 q0 q1 q2 q3 q4 q5
        have hRead3 := read_any s w6 (HE.out _ hb6) (by omega)
        rw [HRES3.out] at hRead3
        go_wp2_with fail
        refine hRead3.mono ?_
        rintro e w7 ⟨rfl, hbx⟩
        have hb7 : Below W0.heap.size W0 w7 := hb6.trans (hbx.mono hb6.size)
        clear hbx hb6 hRead3
        go_upto_region 11 with fail
        have hb8 : Below W0.heap.size W0 (w7.alloc (.cells #[.string (S y.name), .string (S y.val), .string (S y.path), .int .i64 y.age, .bool y.sec, .bool y.http] 32)) := hb7.alloc hb7.size _
        have by8 := Blk6.new w7 y
        generalize (w7.alloc (.cells #[.string (S y.name), .string (S y.val), .string (S y.path), .int .i64 y.age, .bool y.sec, .bool y.http] 32)) = w8 at hb8 by8 ⊢
        obtain ⟨d0, d1, d2, d3, d4, d5⟩ := by8.all
        have hSet4 := set_any y w8 (HE.out _ hb8).env HY2.out
        rw [HRES4.out] at hSet4
        go_wp2_with fail
        refine hSet4.mono ?_
        rintro e w9 ⟨rfl, hbx⟩
        have hb9 : Below W0.heap.size W0 w9 := hb8.trans (hbx.mono hb8.size)
        clear d0 d1 d2 d3 d4 d5 hbx hb8 hSet4 by8
        rcases HFIN.out with h3 | ⟨h3, h5, h6⟩
        · have e1 : ((n3 : Int) != 0) = true := by rw [h3]; rfl
          clear h3
          go_wp2
          go_ret
          exact HEND.out _ hb9
        · have e1 : ((n3 : Int) != 0) = false := by rw [h3]; rfl
          have e2 : ((n4 : Int) == 0) = true := by rw [h5]; rfl
          have e3 : ((S t4).toList == (S s).toList) = true := by rw [h6]; simp
          clear h3 h5 h6
          go_wp2
          go_ret
          exact HEND.out _ hb9
      · intro hr hn
        rw [hr]
        have e1 : ((n : Int) != 1) = false := by rw [hn]; rfl
        clear hr hn hgo
        go_upto_region 10 with fail
        clear e1
        clear d0 d1 d2 d3 d4 d5 q0 q1 q2 q3 q4 q5
        have hRead3 := read_any s w6 (HE.out _ hb6) (by omega)
        rw [HRES3.out] at hRead3
        go_wp2_with fail
        refine hRead3.mono ?_
        rintro e w7 ⟨rfl, hbx⟩
        have hb7 : Below W0.heap.size W0 w7 := hb6.trans (hbx.mono hb6.size)
        clear hbx hb6 hRead3
        go_upto_region 11 with fail
        have hb8 : Below W0.heap.size W0 (w7.alloc (.cells #[.string (S y.name), .string (S y.val), .string (S y.path), .int .i64 y.age, .bool y.sec, .bool y.http] 32)) := hb7.alloc hb7.size _
        have by8 := Blk6.new w7 y
        generalize (w7.alloc (.cells #[.string (S y.name), .string (S y.val), .string (S y.path), .int .i64 y.age, .bool y.sec, .bool y.http] 32)) = w8 at hb8 by8 ⊢
        obtain ⟨d0, d1, d2, d3, d4, d5⟩ := by8.all
        have hSet4 := set_any y w8 (HE.out _ hb8).env HY2.out
        rw [HRES4.out] at hSet4
        go_wp2_with fail
        refine hSet4.mono ?_
        rintro e w9 ⟨rfl, hbx⟩
        have hb9 : Below W0.heap.size W0 w9 := hb8.trans (hbx.mono hb8.size)
        clear d0 d1 d2 d3 d4 d5 hbx hb8 hSet4 by8
        rcases HFIN.out with h3 | ⟨h3, h5, h6⟩
        · have e1 : ((n3 : Int) != 0) = true := by rw [h3]; rfl
          clear h3
          go_wp2
          go_ret
          exact HEND.out _ hb9
        · have e1 : ((n3 : Int) != 0) = false := by rw [h3]; rfl
          have e2 : ((n4 : Int) == 0) = true := by rw [h5]; rfl
          have e3 : ((S t4).toList == (S s).toList) = true := by rw [h6]; simp
          clear h3 h5 h6
          go_wp2
          go_ret
          exact HEND.out _ hb9
    · have h4' : (400 : Int) < ((S s).size : Int) := by omega
      clear h4
      go_wp2
      go_ret
      exact HEND.out _ hb2
end Go.Proofs.YtpdilhnbbokipaaDoor
