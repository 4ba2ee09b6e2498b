/- What the document's Right, Few, Under, Cookies answer, for any cookies with texts of at most 2^30 bytes. -/
import Derived.Test.YtpdilhnbbokipaaDoorCk
namespace Go.Proofs.YtpdilhnbbokipaaDoor
set_option maxRecDepth 8000
open Go.RowKit

set_option maxHeartbeats 1600000 in
theorem refRight_any (c : Ck.C) (w : World) (hc : Small c) :
    Calls Tryd.prog 22 #[cV c] w fun e w' => e = .returned (.bool (Ck.right c)) ∧ Below w.heap.size w w' := by
  obtain ⟨hn, hv, hp⟩ := hc
  have hb0 : Below w.heap.size w (w.alloc (.cells #[.string (S c.name), .string (S c.val), .string (S c.path), .int .i64 c.age, .bool c.sec, .bool c.http] 32)) := (Below.refl _ _).alloc (Nat.le_refl _) _
  have hE := S_empty c.path
  cases hpe : c.path with
  | nil =>
    have HR := Lib.hid (show Ck.right c = false by unfold Ck.right; rw [hpe]; simp)
    have hE2 : (S c.path).toList.isEmpty = true := by rw [hE, hpe]; rfl
    clear hE hpe
    go_enter Tryd.func22, Tryd.ntmps22
    go_wp2
    go_ret
    exact ⟨ret_bool HR.out.symm, hb0⟩
  | cons x r =>
    have hE2 : (S c.path).toList.isEmpty = false := by rw [hE, hpe]; rfl
    have z0 : 0 < (S c.path).size := by show 0 < c.path.length; rw [hpe]; simp
    have zb : (S c.path)[0]'z0 = x := by
      have h2 : (S c.path).data.toList[0]? = some x := by show c.path[0]? = some x; rw [hpe]; rfl
      rw [Lib.data_getElem? (S c.path) _ z0] at h2
      exact Option.some.inj h2
    have HH := Lib.hid (show (c.path.head? == some 47) = (x == 47) by rw [hpe]; rfl)
    clear hpe hE
    by_cases hx : x = 47
    · have e0 : ((((S c.path)[0]'z0).toNat : Int) != 47) = false := by rw [zb, hx]; rfl
      have HH2 := Lib.hid (show (c.path.head? == some 47) = true by rw [HH.out, hx]; rfl)
      clear hx zb HH
      by_cases h1 : -1 ≤ c.age
      · by_cases h2 : c.age ≤ 99999999
        · have HR := Lib.hid (show Ck.right c = (Ck.token c.name && (Ck.value c.val && Ck.value c.path)) by unfold Ck.right; simp [h1, h2, HH2.out])
          have b0 := Blk6.new w c
          have hT := refToken_any c.name (w.alloc (.cells #[.string (S c.name), .string (S c.val), .string (S c.path), .int .i64 c.age, .bool c.sec, .bool c.http] 32)) hn
          have hV := refValue_any c.val (w.alloc (.cells #[.string (S c.name), .string (S c.val), .string (S c.path), .int .i64 c.age, .bool c.sec, .bool c.http] 32)) hv
          have hP := refValue_any c.path (w.alloc (.cells #[.string (S c.name), .string (S c.val), .string (S c.path), .int .i64 c.age, .bool c.sec, .bool c.http] 32)) hp
          go_enter Tryd.func22, Tryd.ntmps22
          go_wp2_with fail
          refine hT.mono ?_
          rintro e w1 ⟨rfl, rfl⟩
          cases ht : Ck.token c.name with
          | false =>
            rw [ht] at HR
            clear ht
            go_wp2
            go_ret
            exact ⟨ret_bool HR.out.symm, hb0⟩
          | true =>
            rw [ht] at HR
            clear ht
            go_wp2_with fail
            refine hV.mono ?_
            rintro e w1 ⟨rfl, rfl⟩
            cases hvv : Ck.value c.val with
            | false =>
              rw [hvv] at HR
              clear hvv
              go_wp2
              go_ret
              exact ⟨ret_bool HR.out.symm, hb0⟩
            | true =>
              rw [hvv] at HR
              clear hvv
              go_wp2_with fail
              refine hP.mono ?_
              rintro e w1 ⟨rfl, rfl⟩
              go_wp2
              go_ret
              exact ⟨ret_bool (by rw [HR.out]; rfl), hb0⟩
        · have HR := Lib.hid (show Ck.right c = false by unfold Ck.right; simp [h2])
          have h2' : 99999999 < c.age := by omega
          clear h2
          go_enter Tryd.func22, Tryd.ntmps22
          go_wp2
          go_ret
          exact ⟨ret_bool HR.out.symm, hb0⟩
      · have HR := Lib.hid (show Ck.right c = false by unfold Ck.right; simp [h1])
        have h1' : c.age < -1 := by omega
        clear h1
        go_enter Tryd.func22, Tryd.ntmps22
        go_wp2
        go_ret
        exact ⟨ret_bool HR.out.symm, hb0⟩
    · have e0 : ((((S c.path)[0]'z0).toNat : Int) != 47) = true := by
        rw [zb]
        have : x.toNat ≠ 47 := fun h => hx (Pct.u8_eq h)
        simp; omega
      have HR := Lib.hid (show Ck.right c = false by unfold Ck.right; rw [HH.out, show (x == 47) = false by simpa using hx]; simp)
      clear hx zb HH
      go_enter Tryd.func22, Tryd.ntmps22
      go_wp2
      go_ret
      exact ⟨ret_bool HR.out.symm, hb0⟩

def fewC (c : Ck.C) : Bool := decide (c.name.length ≤ 60) && (decide (c.val.length ≤ 60) && decide (c.path.length ≤ 60))
theorem fewC_is {c : Ck.C} (h : fewC c = true) : c.name.length ≤ 60 ∧ c.val.length ≤ 60 ∧ c.path.length ≤ 60 := by
  unfold fewC at h
  simpa using h
set_option maxHeartbeats 800000 in
theorem refFewC_any (c : Ck.C) (w : World) :
    Calls Tryd.prog 16 #[cV c] w fun e w' => e = .returned (.bool (fewC c)) ∧ Below w.heap.size w w' := by
  have hb0 : Below w.heap.size w (w.alloc (.cells #[.string (S c.name), .string (S c.val), .string (S c.path), .int .i64 c.age, .bool c.sec, .bool c.http] 32)) := (Below.refl _ _).alloc (Nat.le_refl _) _
  have z1 : (S c.name).size = c.name.length := rfl
  have z2 : (S c.val).size = c.val.length := rfl
  have z3 : (S c.path).size = c.path.length := rfl
  have HF := Lib.hid (show fewC c = (decide ((S c.name).size ≤ 60) && (decide ((S c.val).size ≤ 60) && decide ((S c.path).size ≤ 60))) from rfl)
  clear z1 z2 z3
  by_cases h1 : (S c.name).size ≤ 60
  · by_cases h2 : (S c.val).size ≤ 60
    · go_enter Tryd.func16, Tryd.ntmps16
      go_wp2
      go_ret
      refine ⟨ret_bool ?_, hb0⟩
      rw [HF.out, Bool.eq_iff_iff]
      simp [h1, h2]
      omega
    · have HR := Lib.hid (show fewC c = false by rw [HF.out]; simp [h2])
      clear HF
      go_enter Tryd.func16, Tryd.ntmps16
      go_wp2
      go_ret
      exact ⟨ret_bool HR.out.symm, hb0⟩
  · have HR := Lib.hid (show fewC c = false by rw [HF.out]; simp [h1])
    clear HF
    go_enter Tryd.func16, Tryd.ntmps16
    go_wp2
    go_ret
    exact ⟨ret_bool HR.out.symm, hb0⟩
end Go.Proofs.YtpdilhnbbokipaaDoor
