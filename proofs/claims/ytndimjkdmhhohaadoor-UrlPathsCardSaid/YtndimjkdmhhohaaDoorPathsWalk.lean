/- What the statement UrlPaths does at any two texts: it answers true and turns nothing that was there, where the variables that it reaches read as their texts lay them. -/
import Derived.Test.YtndimjkdmhhohaaDoorVm
import Derived.Test.YtndimjkdmhhohaaDoorRefD
namespace Go.Proofs.YtndimjkdmhhohaaDoor
set_option maxRecDepth 8000
open Go.RowKit

theorem clean_head {l : List UInt8} (h : Url.Clean l) : ∃ t, l = 47 :: t ∧ ∀ q ∈ Pct.split 47 l, Url.isDot q = false := by
  obtain ⟨t, rfl, hq⟩ := h
  refine ⟨t, rfl, fun q hm => ?_⟩
  rw [Pct.split_hit, List.mem_cons] at hm
  rcases hm with rfl | hm
  · rfl
  · exact hq q hm
theorem not_dot {q : List UInt8} (h : Url.isDot q = false) : (q == [46]) = false ∧ (q == [46, 46]) = false := by
  unfold Url.isDot at h
  rw [Bool.or_eq_false_iff] at h
  exact h

set_option maxHeartbeats 800000 in
theorem clean_yes (l : List UInt8) (w : World) (hl : l.length ≤ 100000) (h : Url.Clean l) :
    Calls Tryd.prog 22 #[.string (S l)] w (Told w (.returned (.bool true))) := by
  have hS := S_list
  obtain ⟨t, rfl, hq⟩ := clean_head h
  clear h
  have hcut := refCut_any (S (47 :: t)) 47 w (by show (47 :: t).length ≤ _; omega)
  have hsp : (S (47 :: t)).data.toList = 47 :: t := rfl
  rw [hsp] at hcut
  clear hsp
  have hne : Pct.split 47 (47 :: t) ≠ [] := Pct.split_ne 47 _
  have hcnt := split_count 47 (47 :: t)
  have e0 : (S (47 :: t))[0]'(by show 0 < (47 :: t).length; simp) = 47 := rfl
  have hs0 : 0 < (S (47 :: t)).size := by show 0 < (47 :: t).length; simp
  have hem : (S (47 :: t)).toList.isEmpty = false := by rw [S_list]; rfl
  generalize Pct.split 47 (47 :: t) = ps at hcut hq hne hcnt
  obtain ⟨x, hx⟩ : ∃ x, S (47 :: t) = x := ⟨_, rfl⟩
  have e1 : ∀ h : 0 < x.size, ((x[0]'h).toNat : Int) = 47 := by subst hx; intro h; rfl
  rw [hx] at hcut hem hs0 ⊢
  have e2 := e1 hs0
  clear hx e0 e1
  have HQ := Lib.hid hq
  clear hq
  go_enter Tryd.func22, Tryd.ntmps22
  go_wp2_with fail
  refine hcut.mono ?_
  rintro e w1 ⟨v, rfl, hrow, hb1⟩
  obtain ⟨g, cap, rfl, hg, hc⟩ := hrow.open hne
  have HC := Lib.hid hc
  clear hc hrow hcut
  go_wp2
  go_loop [4] (fun i => ∃ k : Nat, k ≤ ps.length ∧ i = .int .i64 k) (fun i => ps.length - (intOf i).toNat)
  case atStart => exact ⟨0, Nat.zero_le _, rfl⟩
  case round =>
    obtain ⟨k, hk, rfl⟩ := hrel
    have hl' : ps.length ≤ 100001 := by omega
    by_cases hlt : k < ps.length
    · have hck := HC.out k hlt
      obtain ⟨n1, n2⟩ := not_dot (HQ.out ps[k] (List.getElem_mem hlt))
      have i0 : (0 : Int) ≤ (k : Int) := by omega
      have i1 : (k : Int) < (ps.length : Int) := by omega
      go_wp2
      go_round
      case rel => exact ⟨k + 1, by omega, by go_num⟩
      case measure => simp [intOf]; omega
    · go_wp2
      go_ret
      exact ⟨rfl, hb1⟩

theorem err_eq {l : List UInt8} {n : Nat} (h : Url.parse l = .error n) : ((n : Int) == 0) = false := by
  have := err_ne h
  simpa using this

theorem slash_len {l : List UInt8} (h : l.length ≤ 200) : (Url.dots (47 :: l)).length ≤ 202 := by
  have := dots_len l
  omega

set_option maxHeartbeats 1600000 in
theorem urlPaths_any (s p : ByteArray) (w : World) (he : Env w) :
    Calls Tryd.prog 6 #[.string s, .string p] w (AwakePost w) := by
  have hS := S_list
  obtain ⟨l, rfl⟩ : ∃ l, s = S l := ⟨s.data.toList, rfl⟩
  obtain ⟨m, rfl⟩ : ∃ m, p = S m := ⟨p.data.toList, rfl⟩
  have hzl : (S l).size = l.length := rfl
  have hzm : (S m).size = m.length := rfl
  by_cases h1 : 200 < l.length
  · go_enter Tryd.func6, Tryd.ntmps6
    go_wp2_with fail
    refine (awake_url w he).mono ?_
    rintro e w1 ⟨rfl, hb1⟩
    go_wp2
    go_ret
    exact ⟨rfl, hb1⟩
  · by_cases h2 : 200 < m.length
    · go_enter Tryd.func6, Tryd.ntmps6
      go_wp2_with fail
      refine (awake_url w he).mono ?_
      rintro e w1 ⟨rfl, hb1⟩
      go_wp2
      go_ret
      exact ⟨rfl, hb1⟩
    · have a1 : ∀ w' : World, (Op.stringOp .add ⟨#[47]⟩ (S m)).run Tryd.prog w' = .ok (.string (S ([47] ++ m))) w' := fun w' => run_add_S' w' [47] m (by simp; omega)
      have hdl := slash_len (l := m) (by omega)
      have HC := Lib.hid (Url.dots_clean m)
      have HDD := Lib.hid (Url.dots_dots m)
      go_enter Tryd.func6, Tryd.ntmps6
      go_wp2_with fail
      refine (awake_url w he).mono ?_
      rintro e w1 ⟨rfl, hb1⟩
      have he1 := he.next hb1
      go_wp2_with fail
      refine (dots_any (47 :: m) w1 (by simp; omega)).mono ?_
      rintro e w2 ⟨rfl, hb2⟩
      have he2 := he1.next hb2
      have hb2' := below_next hb1 hb2
      clear hb1 hb2 he1
      generalize Url.dots (47 :: m) = d at hdl HC HDD ⊢
      go_wp2_with fail
      have hp := parse_any l w2 he2
      cases hpl : Url.parse l with
      | error n =>
        rw [hpl] at hp
        unfold parseRes uV uCells zeroU at hp
        have hne := err_eq hpl
        clear hpl
        refine hp.mono ?_
        rintro e w3 ⟨rfl, hb3⟩
        have hb3' := (below_next hb2' hb3).alloc (below_next hb2' hb3).size (.cells #[.string (S []), .string (S []), .int .i64 0, .string (S []), .string (S []), .bool false] 24)
        go_wp2_with fail
        refine (clean_yes d _ (by omega) HC.out).mono ?_
        rintro e w5 ⟨rfl, hb5⟩
        have hb5' := below_next hb3' hb5
        clear hb5
        go_wp2_with fail
        refine (dots_any d w5 (by omega)).mono ?_
        rintro e w6 ⟨rfl, hb6⟩
        rw [HDD.out]
        go_wp2
        go_ret
        exact ⟨rfl, below_next hb5' hb6⟩
      | ok u =>
        rw [hpl] at hp
        have hg := parse_good hpl
        have HCU := Lib.hid hg.good.clean
        have hpal := hg.path
        clear hpl hg
        obtain ⟨sc, ho, po, pa, qu, ak⟩ := u
        unfold parseRes uV uCells at hp
        simp only at hpal HCU
        refine hp.mono ?_
        rintro e w3 ⟨rfl, hb3⟩
        have hb3' := (below_next hb2' hb3).alloc (below_next hb2' hb3).size (.cells #[.string (S sc), .string (S ho), .int .i64 (po : Int), .string (S pa), .string (S qu), .bool ak] 24)
        go_wp2_with fail
        refine (clean_yes pa _ (by omega) HCU.out).mono ?_
        rintro e w4 ⟨rfl, hb4⟩
        have hb4' := below_next hb3' hb4
        go_wp2_with fail
        refine (clean_yes d w4 (by omega) HC.out).mono ?_
        rintro e w5 ⟨rfl, hb5⟩
        have hb5' := below_next hb4' hb5
        clear hb5
        go_wp2_with fail
        refine (dots_any d w5 (by omega)).mono ?_
        rintro e w6 ⟨rfl, hb6⟩
        rw [HDD.out]
        go_wp2
        go_ret
        exact ⟨rfl, below_next hb5' hb6⟩
end Go.Proofs.YtndimjkdmhhohaaDoor
