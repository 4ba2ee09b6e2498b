/- What the document's own reading of a request's first line answers, for any line of at most 5000 bytes. -/
import Derived.Test.YtbpeohadgplaaaaDoorRo
namespace Go.Proofs.YtbpeohadgplaaaaDoor
set_option maxRecDepth 8000
open Go.RowKit

def firstRes2 (r : Except Nat (List UInt8 × List UInt8)) : Ending :=
  match r with
  | .ok p => .returned (.tuple #[.agg #[.string (S p.1), .string (S p.2), .slice none 0 0, .string ⟨#[]⟩], .int .i64 0])
  | .error n => .returned (.tuple #[zeroR, .int .i64 n])
theorem refCut_sp (l : List UInt8) (w : World) (hs : l.length ≤ 1048576) :
    Calls Tryd.prog 80 #[.string (S l), .int .u8 32] w fun e w' => ∃ v, e = .returned v ∧ SRow w.heap.size w' v (Pct.split 32 l) ∧ Below w.heap.size w w' := refCut_any (S l) 32 w hs
section
variable {l m t v : List UInt8}
theorem first_bad (h : Pct.split 32 l = [m, t, v]) (h2 : (Req.isMethod m && Req.isTarget t && (v == Req.version)) = false) : Req.first l = .error 17 := by
  rw [first_3 h, if_neg (by rw [h2]; simp)]
end

set_option maxHeartbeats 3200000 in
theorem refFirst_any (l : List UInt8) (w : World) (he : EnvR w) (hs : l.length ≤ 5000) :
    Calls Tryd.prog 56 #[.string (S l)] w (Told w (firstRes2 (Req.first l))) := by
  have h0 := AtR.new he
  have hsum := split_sum 32 l
  clear he
  by_cases h3 : (Pct.split 32 l).length = 3
  · obtain ⟨m, t, v, hp⟩ : ∃ m t v, Pct.split 32 l = [m, t, v] := by
      match h : Pct.split 32 l with
      | [m, t, v] => exact ⟨m, t, v, rfl⟩
      | [] => rw [h] at h3; cases h3
      | [_] => rw [h] at h3; cases h3
      | [_, _] => rw [h] at h3; cases h3
      | _ :: _ :: _ :: _ :: _ => rw [h] at h3; simp at h3
    rw [hp] at hsum
    have b1 : m.length ≤ 5000 := Nat.le_trans (hsum m (by simp)) hs
    have b2 : t.length ≤ 5000 := Nat.le_trans (hsum t (by simp)) hs
    have HB := Lib.hid (fun h2 => first_bad hp h2)
    have HG := Lib.hid (first_3 hp)
    have HP := Lib.hid hp
    clear h3 hp hsum
    go_enter Tryd.func56, Tryd.ntmps56
    go_wp2_with fail
    refine (refCut_sp l _ (by omega)).mono ?_
    rintro e w1 ⟨v1, rfl, hr1, hb1⟩
    have h1 := h0.next hb1
    rw [HP.out] at hr1
    obtain ⟨g, cap, rfl, hg, hcl⟩ := hr1.open (by simp)
    have c0 : w1.cell? ⟨g, 0, none⟩ = some (.string (S m)) := hcl 0 (by simp)
    have c1 : w1.cell? ⟨g, 1, none⟩ = some (.string (S t)) := hcl 1 (by simp)
    have c2 : w1.cell? ⟨g, 2, none⟩ = some (.string (S v)) := hcl 2 (by simp)
    have hlen3 : [m, t, v].length = 3 := rfl
    rw [hlen3]
    clear hb1 h0 hcl hlen3 hr1
    obtain ⟨z0, z1, z2, z3, f0, f1, f2, f3⟩ := h1.cells
    have hbb := h1.below
    clear h1
    have em := S_empty m
    have et := S_empty t
    have hS := S_list
    by_cases hm0 : m = []
    · have HR := Lib.hid (HB.out (by rw [hm0]; rfl))
      have em1 : m.isEmpty = true := by rw [hm0]; rfl
      clear em et hm0
      go_wp2
      exact bodyPost_ret (v := .tuple #[zeroR, .int .i64 17]) (by simp [results, Tryd.results56, go_sem, zeroR, z0, z1, z2, z3]) rfl ⟨by rw [HR.out]; rfl, below_put4 hbb _ _ _ _⟩
    · have em1 : m.isEmpty = false := by cases m with | nil => exact absurd rfl hm0 | cons _ _ => rfl
      have HM0 := Lib.hid em1
      clear em hm0
      by_cases ht0 : t = []
      · have HR := Lib.hid (HB.out (by rw [ht0]; simp [Req.isTarget]))
        have et1 : t.isEmpty = true := by rw [ht0]; rfl
        clear et ht0
        go_wp2
        exact bodyPost_ret (v := .tuple #[zeroR, .int .i64 17]) (by simp [results, Tryd.results56, go_sem, zeroR, z0, z1, z2, z3]) rfl ⟨by rw [HR.out]; rfl, below_put4 hbb _ _ _ _⟩
      · obtain ⟨c, t', ht'⟩ : ∃ c t', t = c :: t' := by
          cases t with
          | nil => exact absurd rfl ht0
          | cons c t' => exact ⟨c, t', rfl⟩
        have et1 : t.isEmpty = false := by rw [ht']; rfl
        have tz : 0 < (S t).size := by rw [ht']; exact Nat.zero_lt_succ _
        have tb : (S t)[0]'tz = c := by subst ht'; rfl
        clear et ht0
        by_cases hc : c = 47
        · have q1 : ((((S t)[0]'tz).toNat : Int) != 47) = false := by rw [tb, hc]; rfl
          have HTG := Lib.hid (show Req.isTarget t = Req.within 33 126 t by rw [ht', hc]; rfl)
          have hSh := fun w' => shown_any t 33 33 w' (by omega) rfl
          clear tb hc ht'
          cases hw : Req.within 33 126 t with
          | false =>
            have HR := Lib.hid (HB.out (by rw [HTG.out, hw]; simp))
            rw [hw] at hSh
            clear hw
            go_wp2_with (go_at_call 33; refine (hSh _).mono ?_; rintro e w' ⟨rfl, rfl⟩)
            exact bodyPost_ret (v := .tuple #[zeroR, .int .i64 17]) (by simp [results, Tryd.results56, go_sem, zeroR, z0, z1, z2, z3]) rfl ⟨by rw [HR.out]; rfl, below_put4 hbb _ _ _ _⟩
          | true =>
            rw [hw] at hSh
            have HTT := Lib.hid (show Req.isTarget t = true by rw [HTG.out, hw])
            clear hw HTG
            by_cases hv : v = Req.version
            · have hv1 : (v != [72, 84, 84, 80, 47, 49, 46, 49]) = false := by rw [hv]; rfl
              have hv2 : (v == [72, 84, 84, 80, 47, 49, 46, 49]) = true := by rw [hv]; rfl
              have HVV := Lib.hid (show (v == Req.version) = true by rw [hv]; rfl)
              clear hv
              go_wp2_with (go_at_call 33; refine (hSh _).mono ?_; rintro e w' ⟨rfl, rfl⟩)
              go_loop [5] (fun i => ∃ k : Nat, k ≤ (S m).size ∧ i = .int .i64 k ∧ ∀ j (hj : j < (S m).size), j < k → Req.inB 65 90 (S m)[j] = true) (fun i => (S m).size - (intOf i).toNat)
              case atStart => exact ⟨0, Nat.zero_le _, rfl, fun j _ hj => absurd hj (by omega)⟩
              case round =>
                obtain ⟨k, hk, rfl, hall⟩ := hrel
                have HALL := Lib.hid hall
                clear hall
                have hmz : (S m).size ≤ 5000 := b1
                by_cases hlt : k < (S m).size
                · cases hok : Req.inB 65 90 (S m)[k] with
                  | true =>
                    have hd := of_decide_eq_true hok
                    have HT := Lib.hid hok
                    clear hok
                    have q2 : 65 ≤ (S m)[k].toNat := hd.1
                    have q3 : (S m)[k].toNat ≤ 90 := hd.2
                    clear hd
                    go_wp2
                    go_round
                    case rel =>
                      refine ⟨k + 1, by omega, by go_num, fun j hj hjk => ?_⟩
                      by_cases e : j = k
                      · subst e; exact HT.out
                      · exact HALL.out j hj (by omega)
                    case measure => simp [intOf]; omega
                  | false =>
                    have HR := Lib.hid (HB.out (by
                      have : Req.isMethod m = false := by
                        unfold Req.isMethod Req.within
                        rw [show m.all (Req.inB 65 90) = false from all_bad (s := S m) hlt hok, Bool.and_false]
                      rw [this]
                      rfl))
                    have HD := Lib.hid (of_decide_eq_false hok)
                    clear hok
                    go_wp2
                    all_goals first
                      | exact bodyPost_ret (v := .tuple #[zeroR, .int .i64 17]) (by simp [results, Tryd.results56, go_sem, zeroR, z0, z1, z2, z3]) rfl ⟨by rw [HR.out]; rfl, below_put4 hbb _ _ _ _⟩
                      | (exfalso
                         have := HD.out
                         omega)
                · have HMM := Lib.hid (show Req.isMethod m = true by
                    unfold Req.isMethod Req.within
                    rw [HM0.out, show m.all (Req.inB 65 90) = true from all_of_get (s := S m) fun j hj => HALL.out j hj (by omega)]
                    rfl)
                  have HF := Lib.hid (show Req.first l = if Req.known m then .ok (m, t) else .error 16 by
                    rw [HG.out, HMM.out, HTT.out, HVV.out]
                    rfl)
                  by_cases hg1 : m = Req.get
                  · have k1 : (m != [71, 69, 84]) = false := by rw [hg1]; rfl
                    have k1b : (m == [71, 69, 84]) = true := by rw [hg1]; rfl
                    have HR := Lib.hid (show Req.first l = .ok (m, t) by rw [HF.out, hg1]; rfl)
                    clear hg1
                    go_wp2
                    go_region
                    go_wp2
                    exact bodyPost_ret (v := .tuple #[.agg #[.string (S m), .string (S t), .slice none 0 0, .string ⟨#[]⟩], .int .i64 0]) (by simp [results, Tryd.results56, go_sem, z0, z1, z2, z3]) rfl ⟨by rw [HR.out]; rfl, Below.drew (below_put4 hbb _ _ _ _)⟩
                  · have k1 : (m != [71, 69, 84]) = true := bne_iff_ne.2 hg1
                    have k1b : (m == [71, 69, 84]) = false := beq_eq_false_iff_ne.2 hg1
                    by_cases hg2 : m = Req.post
                    · have k2 : (m != [80, 79, 83, 84]) = false := by rw [hg2]; rfl
                      have k2b : (m == [80, 79, 83, 84]) = true := by rw [hg2]; rfl
                      have HR := Lib.hid (show Req.first l = .ok (m, t) by rw [HF.out, hg2]; rfl)
                      clear hg1 hg2
                      go_wp2
                      go_region
                      go_wp2
                      exact bodyPost_ret (v := .tuple #[.agg #[.string (S m), .string (S t), .slice none 0 0, .string ⟨#[]⟩], .int .i64 0]) (by simp [results, Tryd.results56, go_sem, z0, z1, z2, z3]) rfl ⟨by rw [HR.out]; rfl, Below.drew (below_put4 hbb _ _ _ _)⟩
                    · have k2 : (m != [80, 79, 83, 84]) = true := bne_iff_ne.2 hg2
                      have k2b : (m == [80, 79, 83, 84]) = false := beq_eq_false_iff_ne.2 hg2
                      have HR := Lib.hid (show Req.first l = .error 16 by
                        rw [HF.out]
                        unfold Req.known
                        rw [beq_eq_false_iff_ne.2 hg1, beq_eq_false_iff_ne.2 hg2]
                        rfl)
                      clear hg1 hg2
                      go_wp2
                      exact bodyPost_ret (v := .tuple #[zeroR, .int .i64 16]) (by simp [results, Tryd.results56, go_sem, zeroR, z0, z1, z2, z3]) rfl ⟨by rw [HR.out]; rfl, below_put4 hbb _ _ _ _⟩
            · have hv1 : (v != [72, 84, 84, 80, 47, 49, 46, 49]) = true := bne_iff_ne.2 hv
              have hv2 : (v == [72, 84, 84, 80, 47, 49, 46, 49]) = false := beq_eq_false_iff_ne.2 hv
              have HR := Lib.hid (HB.out (by rw [beq_eq_false_iff_ne.2 hv]; simp))
              clear hv
              go_wp2_with (go_at_call 33; refine (hSh _).mono ?_; rintro e w' ⟨rfl, rfl⟩)
              exact bodyPost_ret (v := .tuple #[zeroR, .int .i64 17]) (by simp [results, Tryd.results56, go_sem, zeroR, z0, z1, z2, z3]) rfl ⟨by rw [HR.out]; rfl, below_put4 hbb _ _ _ _⟩
        · have q1 : ((((S t)[0]'tz).toNat : Int) != 47) = true := by
            rw [tb]
            exact bne_iff_ne.2 fun e => hc (Pct.u8_eq (by show c.toNat = 47; omega))
          have HR := Lib.hid (HB.out (by rw [ht']; simp [Req.isTarget, hc]))
          clear tb hc ht'
          go_wp2
          exact bodyPost_ret (v := .tuple #[zeroR, .int .i64 17]) (by simp [results, Tryd.results56, go_sem, zeroR, z0, z1, z2, z3]) rfl ⟨by rw [HR.out]; rfl, below_put4 hbb _ _ _ _⟩
  · have HR := Lib.hid (first_not h3)
    go_enter Tryd.func56, Tryd.ntmps56
    go_wp2_with fail
    refine (refCut_sp l _ (by omega)).mono ?_
    rintro e w1 ⟨v1, rfl, hr1, hb1⟩
    have h1 := h0.next hb1
    obtain ⟨g, cap, rfl, hg, _⟩ := hr1.open (Pct.split_ne _ _)
    obtain ⟨n, hn⟩ : ∃ n, n = (Pct.split 32 l).length := ⟨_, rfl⟩
    rw [← hn] at h3 ⊢
    have e3 : ((n : Int) != 3) = true := by simp; omega
    clear hb1 h0 hr1 hn hsum h3
    obtain ⟨z0, z1, z2, z3, f0, f1, f2, f3⟩ := h1.cells
    have hbb := h1.below
    clear h1
    go_wp2
    exact bodyPost_ret (v := .tuple #[zeroR, .int .i64 17]) (by simp [results, Tryd.results56, go_sem, zeroR, z0, z1, z2, z3]) rfl ⟨by rw [HR.out]; rfl, below_put4 hbb _ _ _ _⟩
end Go.Proofs.YtbpeohadgplaaaaDoor
