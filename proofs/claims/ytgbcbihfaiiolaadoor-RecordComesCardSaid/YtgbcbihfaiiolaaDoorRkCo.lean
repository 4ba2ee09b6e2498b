/- The call RecordComes answers true, for any two kinds. -/
import Derived.Test.YtgbcbihfaiiolaaDoorRkF
namespace Go.Proofs.YtgbcbihfaiiolaaDoor
set_option maxRecDepth 8000
open Go.RowKit

/-- Whether a kind comes of nothing, or of one below k. -/
def upTo (kind : Int) (k : Nat) : Bool := decide (kind = 1 ∨ kind = 6 ∨ kind = 2 ∧ 1 < k ∨ kind = 3 ∧ 4 < k ∨ kind = 4 ∧ 2 < k ∨ kind = 5 ∧ 4 < k)
theorem upTo_one (kind : Int) : Rk.comes kind 0 = upTo kind 1 := by
  unfold Rk.comes upTo
  simp
  try omega
theorem upTo_next (kind : Int) (k : Nat) (h : 1 ≤ k) : (upTo kind k || Rk.comes kind (k : Int)) = upTo kind (k + 1) := by
  unfold Rk.comes upTo
  rw [Bool.eq_iff_iff, Bool.or_eq_true]
  simp only [decide_eq_true_eq]
  omega
theorem upTo_all (kind : Int) : upTo kind 7 = decide (1 ≤ kind ∧ kind ≤ 6) := by
  unfold upTo
  rw [Bool.eq_iff_iff]
  simp only [decide_eq_true_eq]
  omega
theorem comes_apart (kind : Int) (k : Nat) (h : 1 ≤ k) (hc : Rk.comes kind (k : Int) = true) : upTo kind 1 = false ∧ (k : Int) ≠ kind := by
  unfold Rk.comes at hc
  have := of_decide_eq_true hc
  unfold upTo
  rw [decide_eq_false_iff_not]
  omega
set_option maxHeartbeats 1600000 in
theorem recordComes_any (kind o : Int) (w : World) (hE : EnvT w) :
    Calls Tryd.prog 6 #[.int .i64 kind, .int .i64 o] w (AwakePost w) := by
  have hA := awake13_any w hE
  have hC := fun a b w' => comes_any a b w'
  go_enter Tryd.func6, Tryd.ntmps6
  go_wp2_with (first
    | (go_at_call 8; refine hA.mono ?_; rintro e w1 ⟨rfl, hb1⟩)
    | (go_at_call 16; refine (hC _ _ _).mono ?_; rintro e w' ⟨rfl, rfl⟩))
  have hroot := upTo_one kind
  generalize hr : Rk.comes kind 0 = root at hroot ⊢
  clear hr
  have HB1 := Lib.hid hb1
  have HROOT := Lib.hid hroot
  clear hroot
  clear hb1 hA
  go_loopw [7, 8] (fun av kv wr => ∃ k : Nat, 1 ≤ k ∧ k ≤ 7 ∧ kv = .int .i64 (k : Int) ∧ av = .bool (upTo kind k) ∧ wr = w') (fun _ kv _ => 7 - (intOf kv).toNat)
  case atStart => exact ⟨1, by omega, by omega, rfl, by rw [HROOT.out], rfl⟩
  case round =>
    obtain ⟨k, hk1, hk7, rfl, rfl, rfl⟩ := hrel
    by_cases hlt : k ≤ 6
    · have hkI : (k : Int) ≤ 6 := by omega
      have hK := fun w' => hC kind (k : Int) w'
      have HU := Lib.hid (upTo_next kind k hk1)
      have HAP := Lib.hid (comes_apart kind k hk1)
      clear hC
      generalize Rk.comes kind (k : Int) = c at hK HU HAP
      generalize upTo kind k = a at HU
      cases c with
      | true =>
        have h12 := HAP.out rfl
        rw [← HROOT.out] at h12
        obtain ⟨h1, h2⟩ := h12
        have hkk : ((k : Int) == kind) = false := by simpa using h2
        clear HAP HROOT
        subst h1
        cases a <;>
          (go_wp2_with (go_at_call 16; refine (hK _).mono ?_; rintro e w' ⟨rfl, rfl⟩)
           go_roundw
           case rel => exact ⟨k + 1, by omega, by omega, by go_num, by rw [← HU.out]; rfl, by first | rfl | trivial⟩
           case measure => simp [intOf]; omega)
      | false =>
        clear HAP
        cases a <;> cases root <;>
          (go_wp2_with (go_at_call 16; refine (hK _).mono ?_; rintro e w' ⟨rfl, rfl⟩)
           go_roundw
           case rel => exact ⟨k + 1, by omega, by omega, by go_num, by rw [← HU.out]; rfl, by first | rfl | trivial⟩
           case measure => simp [intOf]; omega)
    · have hkI : ¬ (k : Int) ≤ 6 := by omega
      have hk : k = 7 := by omega
      subst hk
      rw [upTo_all]
      have hCo := fun w' => hC kind o w'
      have h21 := fun w' => hC 2 1 w'
      have h42 := fun w' => hC 4 2 w'
      have h34 := fun w' => hC 3 4 w'
      have h43 := fun w' => hC 4 3 w'
      have h24 := fun w' => hC 2 4 w'
      have h31 := fun w' => hC 3 1 w'
      have hoo : Rk.comes kind o = true → 0 ≤ o ∧ o ≤ 6 := fun h => by have := Rk.comes_kind h; omega
      clear hC HROOT
      generalize Rk.comes kind o = c at hCo hoo
      have e21 : Rk.comes 2 1 = true := by decide
      have e42 : Rk.comes 4 2 = true := by decide
      have e34 : Rk.comes 3 4 = true := by decide
      have e43 : Rk.comes 4 3 = true := by decide
      have e24 : Rk.comes 2 4 = false := by decide
      have e31 : Rk.comes 3 1 = false := by decide
      rw [e21] at h21
      rw [e42] at h42
      rw [e34] at h34
      rw [e43] at h43
      rw [e24] at h24
      rw [e31] at h31
      clear e21 e42 e34 e43 e24 e31
      have hth : (kind < 1 ∧ decide (1 ≤ kind ∧ kind ≤ 6) = false) ∨ (6 < kind ∧ ¬ kind < 1 ∧ decide (1 ≤ kind ∧ kind ≤ 6) = false) ∨ (1 ≤ kind ∧ kind ≤ 6 ∧ decide (1 ≤ kind ∧ kind ≤ 6) = true) := by
        by_cases h1 : 1 ≤ kind <;> by_cases h6 : kind ≤ 6 <;> simp [h1, h6] <;> omega
      generalize decide (1 ≤ kind ∧ kind ≤ 6) = there at hth ⊢
      cases c with
      | false =>
        clear hoo
        rcases hth with ⟨q1, rfl⟩ | ⟨q1, q2, rfl⟩ | ⟨q1, q2, rfl⟩ <;>
          (go_wp2_with (first
             | (go_at_call 16; with_reducible refine (hCo _).mono ?_; rintro e w' ⟨rfl, rfl⟩)
             | (go_at_call 16; with_reducible refine (h21 _).mono ?_; rintro e w' ⟨rfl, rfl⟩)
             | (go_at_call 16; with_reducible refine (h42 _).mono ?_; rintro e w' ⟨rfl, rfl⟩)
             | (go_at_call 16; with_reducible refine (h34 _).mono ?_; rintro e w' ⟨rfl, rfl⟩)
             | (go_at_call 16; with_reducible refine (h43 _).mono ?_; rintro e w' ⟨rfl, rfl⟩)
             | (go_at_call 16; with_reducible refine (h24 _).mono ?_; rintro e w' ⟨rfl, rfl⟩)
             | (go_at_call 16; with_reducible refine (h31 _).mono ?_; rintro e w' ⟨rfl, rfl⟩))
           go_ret
           exact ⟨rfl, HB1.out⟩)
      | true =>
        obtain ⟨o1, o2⟩ := hoo rfl
        clear hoo
        rcases hth with ⟨q1, rfl⟩ | ⟨q1, q2, rfl⟩ | ⟨q1, q2, rfl⟩ <;>
          (go_wp2_with (first
             | (go_at_call 16; with_reducible refine (hCo _).mono ?_; rintro e w' ⟨rfl, rfl⟩)
             | (go_at_call 16; with_reducible refine (h21 _).mono ?_; rintro e w' ⟨rfl, rfl⟩)
             | (go_at_call 16; with_reducible refine (h42 _).mono ?_; rintro e w' ⟨rfl, rfl⟩)
             | (go_at_call 16; with_reducible refine (h34 _).mono ?_; rintro e w' ⟨rfl, rfl⟩)
             | (go_at_call 16; with_reducible refine (h43 _).mono ?_; rintro e w' ⟨rfl, rfl⟩)
             | (go_at_call 16; with_reducible refine (h24 _).mono ?_; rintro e w' ⟨rfl, rfl⟩)
             | (go_at_call 16; with_reducible refine (h31 _).mono ?_; rintro e w' ⟨rfl, rfl⟩))
           go_ret
           exact ⟨rfl, HB1.out⟩)
end Go.Proofs.YtgbcbihfaiiolaaDoor
