/- What the document's Under, Pairs and Cookies answer, for any cookies with texts of at most 2^30 bytes, at most 20 of them. -/
import Derived.Test.YtpdilhnbbokipaaDoorCv
import Derived.Test.YtpdilhnbbokipaaDoorCp
import Derived.Laws.StructEq
namespace Go.Proofs.YtpdilhnbbokipaaDoor
set_option maxRecDepth 8000
open Go.RowKit

theorem prefix_take (top path : List UInt8) : top.isPrefixOf path = (path.take top.length == top) := by
  rw [Bool.eq_iff_iff, List.isPrefixOf_iff_prefix, beq_iff_eq, List.prefix_iff_eq_take]
  exact eq_comm
theorem prefix_short {top path : List UInt8} (h : path.length < top.length) : top.isPrefixOf path = false := by
  rw [← Bool.not_eq_true, List.isPrefixOf_iff_prefix]
  intro hp
  have := hp.length_le
  omega
theorem under_is {path top : List UInt8} (h : top.isPrefixOf path = true) : Ck.under path top = (decide (path.length = top.length) || (top.getLast? == some 47) || (path[top.length]? == some 47)) := by
  unfold Ck.under
  have hl : top.length ≤ path.length := (List.isPrefixOf_iff_prefix.1 h).length_le
  have e1 : (path.drop top.length).isEmpty = decide (path.length = top.length) := by
    rw [Bool.eq_iff_iff, List.isEmpty_iff, decide_eq_true_eq, List.drop_eq_nil_iff]
    omega
  have e2 : (path.drop top.length).head? = path[top.length]? := by
    rw [List.head?_drop]
  rw [h, e1, e2, Bool.true_and]

set_option maxHeartbeats 1600000 in
theorem refUnder_any (path top : List UInt8) (w : World) (hp : path.length ≤ 1073741824) (ht : top.length ≤ 1073741824) :
    Calls Tryd.prog 49 #[.string (S path), .string (S top)] w fun e w' => e = .returned (.bool (Ck.under path top)) ∧ w = w' := by
  by_cases h1 : (S path).size < (S top).size
  · have HU := Lib.hid (show Ck.under path top = false by unfold Ck.under; rw [prefix_short h1]; rfl)
    go_enter Tryd.func49, Tryd.ntmps49
    go_wp2
    go_ret
    exact ⟨ret_bool HU.out.symm, rfl⟩
  · have hle : (S top).size ≤ (S path).size := by omega
    have hpz : (S path).size ≤ 1073741824 := hp
    have htz : (S top).size ≤ 1073741824 := ht
    have hx : (S path).extract 0 (S top).size = S (path.take top.length) := by
      rw [extract_piece]
      rfl
    have hq : ((S (path.take top.length)).toList == (S top).toList) = top.isPrefixOf path := by rw [prefix_take top path, S_list, S_list]
    cases hpre : top.isPrefixOf path with
    | false =>
      have HU := Lib.hid (show Ck.under path top = false by unfold Ck.under; rw [hpre]; rfl)
      rw [hpre] at hq
      clear hpre
      generalize path.take top.length = y at hx hq
      go_enter Tryd.func49, Tryd.ntmps49
      go_wp2
      go_ret
      exact ⟨ret_bool HU.out.symm, rfl⟩
    | true =>
      have HU := Lib.hid (under_is hpre)
      rw [hpre] at hq
      clear hpre
      generalize path.take top.length = y at hx hq
      by_cases hlen : (S path).size = (S top).size
      · have e0 : (((S path).size : Int) == ((S top).size : Int)) = true := by rw [hlen]; simp
        have HR := Lib.hid (show Ck.under path top = true by rw [HU.out, show decide (path.length = top.length) = true from decide_eq_true hlen]; rfl)
        clear HU hlen
        go_enter Tryd.func49, Tryd.ntmps49
        go_wp2
        go_ret
        exact ⟨ret_bool HR.out.symm, rfl⟩
      · have e0 : (((S path).size : Int) == ((S top).size : Int)) = false := beq_eq_false_iff_ne.2 (by omega)
        have hlt : (S top).size < (S path).size := by omega
        have HR := Lib.hid (show Ck.under path top = ((top.getLast? == some 47) || (path[top.length]? == some 47)) by rw [HU.out, show decide (path.length = top.length) = false from decide_eq_false hlen]; rfl)
        have hpn : (path[top.length]? == some 47) = (((S path)[(S top).size]'hlt).toNat == 47) := by
          have h2 : path[top.length]? = some ((S path)[(S top).size]'hlt) := Lib.data_getElem? (S path) _ hlt
          rw [h2, Bool.eq_iff_iff, beq_iff_eq, beq_iff_eq]
          exact ⟨fun h => by rw [Option.some.inj h]; rfl, fun h => by rw [Pct.u8_eq (a := (S path)[(S top).size]'hlt) (b := 47) h]⟩
        have e9 : ((((S path)[(S top).size]'hlt).toNat : Int) == 47) = (((S path)[(S top).size]'hlt).toNat == 47) := by
          rw [Bool.eq_iff_iff, beq_iff_eq, beq_iff_eq]
          omega
        rw [hpn, ← e9] at HR
        clear HU hpn e9 hlen
        by_cases h0 : (S top).size = 0
        · have HR2 := Lib.hid (show Ck.under path top = ((((S path)[(S top).size]'hlt).toNat : Int) == 47) by
            have hg : (top.getLast? == some 47) = false := by rw [show top = [] from List.length_eq_zero_iff.1 h0]; rfl
            rw [HR.out, hg, Bool.false_or])
          have h0' : ¬ (0 : Int) < ((S top).size : Int) := by omega
          clear HR h0
          go_enter Tryd.func49, Tryd.ntmps49
          go_wp2
          go_ret
          exact ⟨ret_bool HR2.out.symm, rfl⟩
        · have h0' : (0 : Int) < ((S top).size : Int) := by omega
          have hlast : (S top).size - 1 < (S top).size := by omega
          have hg : (top.getLast? == some 47) = ((((S top)[(S top).size - 1]'hlast).toNat : Int) == 47) := by
            have h2 : top.getLast? = some ((S top)[(S top).size - 1]'hlast) := by
              rw [List.getLast?_eq_getElem?]
              exact Lib.data_getElem? (S top) _ hlast
            rw [h2, Bool.eq_iff_iff, beq_iff_eq, beq_iff_eq]
            refine ⟨fun h => by rw [Option.some.inj h]; rfl, fun h => ?_⟩
            rw [Pct.u8_eq (a := (S top)[(S top).size - 1]'hlast) (b := 47) (by have e : (47 : UInt8).toNat = 47 := rfl; omega)]
          rw [hg] at HR
          have c1 : (0 : Int) ≤ ((S top).size : Int) - 1 := by omega
          have c2 : ((S top).size : Int) - 1 < ((S top).size : Int) := by omega
          have c3 : (((S top).size : Int) - 1).toNat = (S top).size - 1 := by omega
          clear hg h0
          cases hb : ((((S top)[(S top).size - 1]'hlast).toNat : Int) == 47) with
          | true =>
            rw [hb] at HR
            go_enter Tryd.func49, Tryd.ntmps49
            go_wp2
            go_ret
            exact ⟨ret_bool (by rw [HR.out]; rfl), rfl⟩
          | false =>
            rw [hb] at HR
            go_enter Tryd.func49, Tryd.ntmps49
            go_wp2
            go_ret
            exact ⟨ret_bool (by rw [HR.out]; rfl), rfl⟩
end Go.Proofs.YtpdilhnbbokipaaDoor
