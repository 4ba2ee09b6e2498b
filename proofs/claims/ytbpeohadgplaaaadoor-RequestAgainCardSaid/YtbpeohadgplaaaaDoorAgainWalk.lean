/- What the statement RequestAgain answers: true, for any bytes, where the variables that it reaches read as their texts lay them. -/
import Derived.Test.YtbpeohadgplaaaaDoorRBackWalk
import Derived.Test.YtbpeohadgplaaaaDoorCutsWalk
import Derived.Deep.DeepCutAuto
namespace Go.Proofs.YtbpeohadgplaaaaDoor
set_option maxRecDepth 8000
open Go.RowKit

theorem sumH_mem : ∀ (l : List Pct.PairL) (k : Nat) (h : k < l.length), l[k].1.length + l[k].2.length ≤ Req.sumH l
  | q :: l, 0, _ => by simp only [Req.sumH, List.getElem_cons_zero]; omega
  | q :: l, k + 1, h => by
    have := sumH_mem l k (by simpa using h)
    simp only [Req.sumH, List.getElem_cons_succ]
    omega
theorem parse_few {s m t b : List UInt8} {l : List Pct.PairL} (h : Req.parse s = .ok ⟨m, t, l, b⟩) (hs : s.length ≤ 700) : FewR m t l b ∧ Req.fewest ⟨m, t, l, b⟩ ≤ 700 := by
  obtain ⟨hr, hf⟩ := Req.parse_right h
  obtain ⟨h1, _⟩ := Req.right_parts hr
  have e : Req.fewest ⟨m, t, l, b⟩ = m.length + t.length + 14 + b.length + Req.sumH l := rfl
  refine ⟨⟨by omega, by omega, by omega, by simp only at h1; omega, fun k hk => ?_⟩, by omega⟩
  have := sumH_mem l k hk
  omega
theorem target_head {t : List UInt8} (h : Req.isTarget t = true) : ∃ t', t = 47 :: t' := by
  unfold Req.isTarget at h
  rw [Bool.and_eq_true, beq_iff_eq] at h
  cases t with
  | nil => cases h.1
  | cons c r =>
    have := h.1
    simp at this
    exact ⟨r, by rw [this]⟩
theorem headOk_is {q : Pct.PairL} (h : Req.headOk q = true) : Req.token q.1 = true ∧ Req.within 32 126 q.2 = true := by
  unfold Req.headOk Req.isText at h
  simp only [Bool.and_eq_true] at h
  exact ⟨h.1, h.2.1⟩

set_option maxHeartbeats 1600000 in
theorem again_ok (l m t b : List UInt8) (hs : List Pct.PairL) (w : World) (he : EnvR w) (hl : l.length ≤ 700) (hp : Req.parse l = .ok ⟨m, t, hs, b⟩) :
    Calls Tryd.prog 7 #[.string (S l)] w (AwakePost w) := by
  have hS := S_list
  have hl' : ¬ 700 < (S l).size := by have : (S l).size = l.length := rfl; omega
  obtain ⟨hfew, hfs⟩ := parse_few hp hl
  obtain ⟨hr, _⟩ := Req.parse_right hp
  obtain ⟨r1, _, r3, r4, r5, _⟩ := Req.right_parts hr
  simp only at r1 r3 r4 r5
  have hlong : ¬ 4096 < Req.fewest ⟨m, t, hs, b⟩ + hs.length := by omega
  have HW := Lib.hid (write_3 hr hlong)
  have HP2 := Lib.hid (Req.parse_text hr hlong)
  have HP := Lib.hid hp
  have HR := Lib.hid hr
  have HFEW := Lib.hid hfew
  have HOK := Lib.hid r5
  have hw33 : Req.within 33 126 t = true := by
    unfold Req.isTarget at r4
    rw [Bool.and_eq_true] at r4
    exact r4.2
  have hSh := fun w' => shown_any t 33 33 w' (by have := hfew.t; omega) rfl
  rw [hw33] at hSh
  obtain ⟨t', ht'⟩ := target_head r4
  have z0 : 0 < (S t).size := by rw [ht']; exact Nat.zero_lt_succ _
  have z47 : (((S t)[0]'z0).toNat : Int) = 47 := by subst ht'; rfl
  have z47b : ((((S t)[0]'z0).toNat : Int) == 47) = true := by rw [z47]; rfl
  have hkn := Req.known_is r3
  obtain ⟨x, hx⟩ : ∃ x, x = Req.text [32] ⟨m, t, hs, b⟩ := ⟨_, rfl⟩
  rw [← hx] at HW HP2
  clear hlong hp hr hfew r5 r3 r4 hx hw33 ht' hfs z47
  go_enter Tryd.func7, Tryd.ntmps7
  go_wp2_with fail
  refine (awake_req w he).mono ?_
  rintro e w1 ⟨rfl, hb1⟩
  have he1 := he.next hb1
  go_wp2_with fail
  refine (reqParse_ok l m t hs b w1 he1 HP.out).mono ?_
  rintro e w2 ⟨A, cap, rfl, hp2, hb2⟩
  have he2 := he1.next hb2
  have hb2' := below_step hb1 hb2
  have h2 := HasR.new (m := m) (t := t) (b := b) (cap := cap) hp2
  have hbx := below_alloc w2 (.cells #[.string (S m), .string (S t), .slice A hs.length cap, .string (S b)] 33)
  have he3 := he2.next hbx
  have hb3 := below_step hb2' hbx
  clear hb1 he1 hb2 hp2 he2 hb2' hbx
  obtain ⟨c0, c1, c2, c3⟩ := h2.cells
  go_wp2_with fail
  generalize w2.alloc (.cells #[.string (S m), .string (S t), .slice A hs.length cap, .string (S b)] 33) = w3 at h2 he3 hb3 c0 c1 c2 c3
  refine (reqWrite_ok m t A cap hs b x w3 h2.row HFEW.out HW.out).mono ?_
  rintro e w4 ⟨rfl, hb4⟩
  have h4 := h2.next hb4
  have he4 := he3.next hb4
  have hb4' := below_step hb3 hb4
  clear h2 he3 hb3 hb4 c0 c1 c2 c3
  go_wp2_with fail
  refine (reqParse_ok x m t hs b w4 he4 HP2.out).mono ?_
  rintro e w5 ⟨A5, cap5, rfl, hp5, hb5⟩
  have h5 := h4.next hb5
  have hb5' := below_step hb4' hb5
  have g5 := HasR.new (m := m) (t := t) (b := b) (cap := cap5) hp5
  have hbx := below_alloc w5 (.cells #[.string (S m), .string (S t), .slice A5 hs.length cap5, .string (S b)] 33)
  have h6 := h5.next hbx
  have hb6 := below_step hb5' hbx
  clear h4 he4 hb4' hb5 h5 hb5' hp5 hbx
  obtain ⟨c0, c1, c2, c3⟩ := h6.cells
  generalize hW6 : w5.alloc (.cells #[.string (S m), .string (S t), .slice A5 hs.length cap5, .string (S b)] 33) = w6 at h6 g5 hb6 c0 c1 c2 c3
  have hn32 : ((hs.length : Int)) ≤ 32 := by omega
  have hmm : ((S m).toList == [71, 69, 84]) = true ∨ (((S m).toList == [71, 69, 84]) = false ∧ ((S m).toList == [80, 79, 83, 84]) = true) := by
    rw [S_list]
    rcases hkn with rfl | rfl
    · exact .inl rfl
    · exact .inr ⟨rfl, rfl⟩
  clear hS hkn
  go_upto_region 9 with fail
  go_cut [10] (fun v wx => v = .bool true ∧ wx = w6)
  case first =>
    rcases hmm with hm1 | ⟨hm1, hm2⟩
    · go_wp2_with (go_at_call 33; refine (hSh _).mono ?_; rintro e w' ⟨rfl, rfl⟩)
      go_meet
      exact ⟨rfl, rfl⟩
    · go_wp2_with (go_at_call 33; refine (hSh _).mono ?_; rintro e w' ⟨rfl, rfl⟩)
      go_meet
      exact ⟨rfl, rfl⟩
  case rest =>
    obtain ⟨rfl, rfl⟩ := hcut
    clear hmm hSh hW6
    go_wp2
    go_loop [10, 11] (fun v i => v = .bool true ∧ ∃ k : Nat, k ≤ hs.length ∧ i = .int .i64 k) (fun _ i => hs.length - (intOf i).toNat)
    case atStart => exact ⟨rfl, 0, Nat.zero_le _, rfl⟩
    case round =>
      obtain ⟨rfl, k, hk, rfl⟩ := hrel
      by_cases hlt : k < hs.length
      · obtain ⟨ab, off, hA, hbb, hcl⟩ := h6.row (by omega)
        obtain ⟨d0, d1⟩ := hcl k hlt
        have hql := HFEW.out.q k hlt
        have hok := headOk_is (List.all_eq_true.1 HOK.out hs[k] (List.getElem_mem hlt))
        clear hcl
        obtain ⟨y, hy⟩ : ∃ y, y = hs[k].1 := ⟨_, rfl⟩
        obtain ⟨z, hz⟩ : ∃ z, z = hs[k].2 := ⟨_, rfl⟩
        rw [← hy] at d0 hql hok
        rw [← hz] at d1 hql hok
        clear hy hz
        have hTok := fun w' => refToken_any y w' (by omega)
        have hTxt := fun w' => shown_any z 32 32 w' (by omega) rfl
        rw [hok.1] at hTok
        rw [hok.2] at hTxt
        clear hok hql
        have i0 : (0 : Int) ≤ (k : Int) := by omega
        have i1 : (k : Int) < (hs.length : Int) := by omega
        subst hA
        go_wp2_with (first
          | (go_at_call 34; refine (hTok _).mono ?_; rintro e w' ⟨rfl, rfl⟩)
          | (go_at_call 33; refine (hTxt _).mono ?_; rintro e w' ⟨rfl, rfl⟩))
        go_round
        case rel => exact ⟨rfl, k + 1, by omega, by go_num⟩
        case measure => simp [intOf]; omega
      · go_wp2_with fail
        refine (right_to m t A cap hs b true _ h6.row HFEW.out HR.out).mono ?_
        rintro e w7 ⟨rfl, hb7⟩
        have h7 := h6.next hb7
        have g7 := g5.next hb7
        have hb7' := below_step hb6 hb7
        clear c0 c1 c2 c3 h6 g5 hb6 hb7
        obtain ⟨c0, c1, c2, c3⟩ := h7.cells
        obtain ⟨d0, d1, d2, d3⟩ := g7.cells
        go_wp2_with fail
        refine (same_yes m t A A5 cap cap5 hs b w7 h7.row g7.row (by omega)).mono ?_
        rintro e w8 ⟨rfl, hb8⟩
        go_wp2
        go_ret
        exact ⟨rfl, below_step hb7' hb8⟩

theorem same_zero (w : World) : Calls Tryd.prog 18 #[.agg #[.string ⟨#[]⟩, .string ⟨#[]⟩, .slice none 0 0, .string ⟨#[]⟩], .agg #[.string ⟨#[]⟩, .string ⟨#[]⟩, .slice none 0 0, .string ⟨#[]⟩]] w (Told w (.returned (.bool true))) :=
  same_yes [] [] none none 0 0 [] [] w (fun h => absurd h (by simp)) (fun h => absurd h (by simp)) (by simp)

set_option maxHeartbeats 800000 in
theorem requestAgain_any (s : ByteArray) (w : World) (he : EnvR w) : Calls Tryd.prog 7 #[.string s] w (AwakePost w) := by
  obtain ⟨l, hl⟩ : ∃ l, l = s.data.toList := ⟨_, rfl⟩
  have hsl : s = S l := by rw [hl]; rfl
  clear hl
  subst hsl
  have hz : (S l).size = l.length := rfl
  by_cases h7 : 700 < l.length
  · have h7' : 700 < (S l).size := h7
    go_enter Tryd.func7, Tryd.ntmps7
    go_wp2_with fail
    refine (awake_req w he).mono ?_
    rintro e w1 ⟨rfl, hb1⟩
    go_wp2
    go_ret
    exact ⟨rfl, hb1⟩
  · cases hp : Req.parse l with
    | ok r =>
      obtain ⟨m, t, hs, b⟩ := r
      exact again_ok l m t b hs w he (by omega) hp
    | error n =>
      have h7' : ¬ 700 < (S l).size := h7
      have hn0 := parse_err_ne hp
      have en : ((n : Int) != 0) = true := by simp; omega
      have HP := Lib.hid hp
      clear hp
      go_enter Tryd.func7, Tryd.ntmps7
      go_wp2_with fail
      refine (awake_req w he).mono ?_
      rintro e w1 ⟨rfl, hb1⟩
      go_wp2_with fail
      refine (reqParse_err l n w1 (he.next hb1) HP.out).mono ?_
      rintro e w2 ⟨rfl, hb2⟩
      have hb2' := below_step hb1 hb2
      go_wp2_with fail
      refine (same_zero _).mono ?_
      rintro e w3 ⟨rfl, hb3⟩
      go_wp2
      go_ret
      exact ⟨rfl, below_step (hb2'.alloc hb2'.size _) hb3⟩
end Go.Proofs.YtbpeohadgplaaaaDoor
