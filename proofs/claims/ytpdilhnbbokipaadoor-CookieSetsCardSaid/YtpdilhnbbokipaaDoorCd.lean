/- What the document's trim answers, for any text of at most 2^30 bytes. -/
import Derived.Test.YtpdilhnbbokipaaDoorCc
namespace Go.Proofs.YtpdilhnbbokipaaDoor
set_option maxRecDepth 8000
open Go.RowKit

namespace Ck
theorem dw_same (p : UInt8 → Bool) : ∀ l : Bytes, (∀ c, l.head? = some c → p c = false) → l.dropWhile p = l
  | [], _ => rfl
  | c :: r, h => by rw [List.dropWhile_cons_of_neg (by rw [h c rfl]; simp)]
theorem dw_head (p : UInt8 → Bool) {l : Bytes} (h : l.dropWhile p = l) : ∀ c, l.head? = some c → p c = false := by
  intro c hc
  cases l with
  | nil => cases hc
  | cons d r =>
    cases hc
    cases hp : p c with
    | false => rfl
    | true =>
      rw [List.dropWhile_cons_of_pos hp] at h
      have := (List.dropWhile_sublist p (l := r)).length_le
      rw [h] at this
      simp at this
      omega
end Ck
open Ck (dw_all dw_append spB)
theorem trim_swap (p : UInt8 → Bool) (l : List UInt8) : ((l.reverse.dropWhile p).reverse).dropWhile p = ((l.dropWhile p).reverse.dropWhile p).reverse := by
  have hs : l = l.takeWhile p ++ l.dropWhile p := (List.takeWhile_append_dropWhile).symm
  have ha : ∀ c ∈ l.takeWhile p, p c = true := fun c hc => by
    have := List.all_takeWhile (p := p) (l := l)
    exact List.all_eq_true.1 this c hc
  cases hd : l.dropWhile p with
  | nil =>
    rw [hd, List.append_nil] at hs
    have h1 : l.reverse.dropWhile p = [] := by
      have := dw_all p [] l.reverse (fun c hc => by rw [hs] at hc; exact ha c (List.mem_reverse.1 hc))
      rw [List.append_nil] at this
      rw [this]
      rfl
    rw [h1]
    rfl
  | cons c x =>
    have hc : p c = false := by
      have h2 : (l.dropWhile p).dropWhile p = l.dropWhile p := by
        conv => rhs; rw [hs]
        rw [dw_all p _ _ ha]
      exact Ck.dw_head p h2 c (by rw [hd]; rfl)
    rw [hd] at hs
    have e1 : l.reverse.dropWhile p = (c :: x).reverse.dropWhile p ++ (l.takeWhile p).reverse := by
      conv => lhs; rw [hs]
      rw [List.reverse_append]
      exact dw_append p _ _ ⟨c, by simp, hc⟩
    have e2 : (c :: x).reverse.dropWhile p = x.reverse.dropWhile p ++ [c] ∨ (c :: x).reverse.dropWhile p = [c] := by
      rw [List.reverse_cons]
      by_cases hx : ∃ d ∈ x.reverse, p d = false
      · exact .inl (dw_append p [c] _ hx)
      · refine .inr ?_
        rw [dw_all p [c] x.reverse (fun d hd => by
          cases h : p d with
          | true => rfl
          | false => exact absurd ⟨d, hd, h⟩ hx)]
        rw [List.dropWhile_cons_of_neg (by rw [hc]; simp)]
    rw [e1, List.reverse_append, List.reverse_reverse, dw_all p _ _ ha]
    refine Ck.dw_same p _ fun d hd => ?_
    rcases e2 with e2 | e2
    · rw [e2, List.reverse_append] at hd
      simp at hd
      rw [← hd]; exact hc
    · rw [e2] at hd
      simp at hd
      rw [← hd]; exact hc
theorem last_byte {l : List UInt8} {c : UInt8} (h : l.reverse.head? = some c) : l = l.take (l.length - 1) ++ [c] := by
  cases hr : l.reverse with
  | nil => rw [hr] at h; cases h
  | cons d r =>
    rw [hr] at h
    cases h
    have e : l = r.reverse ++ [c] := by rw [← List.reverse_reverse l, hr]; simp
    rw [e]
    simp

theorem trim_is (l : List UInt8) : Ck.trim l = ((l.dropWhile spB).reverse.dropWhile spB).reverse := by
  unfold Ck.trim Lib.trimS Lib.trimLeftS Lib.trimRightS
  rw [Ck.sp_is]
  exact trim_swap spB l

set_option maxHeartbeats 800000 in
theorem refTrim_any (l : List UInt8) (w : World) (hs : l.length ≤ 1073741824) :
    Calls Tryd.prog 37 #[.string (S l)] w fun e w' => e = .returned (.string (S (Ck.trim l))) ∧ w = w' := by
  have HT := Lib.hid (trim_is l)
  go_enter Tryd.func37, Tryd.ntmps37
  go_wp2
  go_loop [0] (fun v => ∃ x : List UInt8, v = .string (S x) ∧ x.length ≤ 1073741824 ∧ x.dropWhile spB = l.dropWhile spB) (fun v => strLen v)
  case atStart => exact ⟨l, rfl, hs, rfl⟩
  case round =>
    obtain ⟨x, rfl, hxl, hx⟩ := hrel
    have HX := Lib.hid hx
    clear hx
    by_cases hgo : ∃ c r, x = c :: r ∧ spB c = true
    · obtain ⟨c, r, rfl, hc⟩ := hgo
      have z0 : 0 < (S (c :: r)).size := Nat.zero_lt_succ _
      have zb : (S (c :: r))[0]'z0 = c := rfl
      have HN := Lib.hid (show r.dropWhile spB = l.dropWhile spB by rw [← HX.out, List.dropWhile_cons_of_pos hc])
      have hext : (S (c :: r)).extract 1 (S (c :: r)).size = S r := by rw [extract_rest]; rfl
      have h1 : 1 ≤ (S (c :: r)).size := z0
      have HM := Lib.hid (show strLen (.string (S r)) < strLen (.string (S (c :: r))) from Nat.lt_succ_self _)
      have h32 : c = 32 := beq_iff_eq.1 hc
      obtain ⟨y, hy⟩ : ∃ y, y = c :: r := ⟨_, rfl⟩
      have hrl : r.length ≤ 1073741824 := by simp at hxl; omega
      rw [← hy] at hext h1 HM ⊢
      have z0' : 0 < (S y).size := by rw [hy]; exact z0
      have e1b : ((((S y)[0]'z0').toNat : Int) == 32) = true := by subst hy; rw [zb, h32]; rfl
      clear hy zb z0 hc h32 HX hxl
      go_wp2
      go_round
      case rel => exact ⟨r, rfl, hrl, HN.out⟩
      case measure => exact HM.out
    · have HX2 := Lib.hid (show x = l.dropWhile spB by
        rw [← HX.out]
        exact (Ck.dw_same spB x fun c hc => by
          cases x with
          | nil => cases hc
          | cons d r =>
            cases hc
            cases h : spB c with
            | false => rfl
            | true => exact absurd ⟨c, r, rfl, h⟩ hgo).symm)
      have hstop : (S x).size = 0 ∨ ∃ h0 : 0 < (S x).size, ((((S x)[0]'h0).toNat : Int) == 32) = false := by
        cases x with
        | nil => exact .inl rfl
        | cons c r =>
          refine .inr ⟨Nat.zero_lt_succ _, ?_⟩
          have hc : spB c = false := by
            cases h : spB c with
            | false => rfl
            | true => exact absurd ⟨c, r, rfl, h⟩ hgo
          have hc' : c ≠ 32 := by unfold spB at hc; simpa using hc
          exact u8_ne (n := 32) 32 rfl hc'
      clear hgo HX
      rcases hstop with h0 | ⟨h0, q1⟩
      · have hx0 : x = [] := List.length_eq_zero_iff.1 h0
        subst hx0
        have HR := Lib.hid (show Ck.trim l = [] by rw [HT.out, ← HX2.out]; rfl)
        have h00 : ¬ 0 < (S ([] : List UInt8)).size := by rw [h0]; omega
        go_wp2
        go_loop [0] (fun v => v = .string (S [])) (fun v => strLen v)
        case atStart => exact rfl
        case round =>
          obtain rfl := hrel
          go_wp2
          go_ret
          exact ⟨by rw [HR.out]; rfl, rfl⟩
      · go_wp2
        go_loop [0] (fun v => ∃ y : List UInt8, v = .string (S y) ∧ y.length ≤ 1073741824 ∧ y.reverse.dropWhile spB = x.reverse.dropWhile spB) (fun v => strLen v)
        case atStart => exact ⟨x, rfl, hxl, rfl⟩
        case round =>
          obtain ⟨y, rfl, hyl, hy⟩ := hrel
          have HY := Lib.hid hy
          clear hy q1
          by_cases hgo : ∃ c, y.reverse.head? = some c ∧ spB c = true
          · obtain ⟨c, hc, hsp⟩ := hgo
            have hyc := last_byte hc
            obtain ⟨z, hz⟩ : ∃ z, z = y.take (y.length - 1) := ⟨_, rfl⟩
            rw [← hz] at hyc
            have hlen : y.length = z.length + 1 := by rw [hyc]; simp
            have HN := Lib.hid (show z.reverse.dropWhile spB = x.reverse.dropWhile spB by
              rw [← HY.out, hyc, List.reverse_append]
              show _ = (c :: z.reverse).dropWhile spB
              rw [List.dropWhile_cons_of_pos hsp])
            have hsz : (S y).size = z.length + 1 := hlen
            have z0 : 0 < (S y).size := by omega
            have zl : z.length < (S y).size := by omega
            have zb : (S y)[z.length]'zl = c := by
              have h2 : (S y).data.toList[z.length]? = some c := by
                show y[z.length]? = some c
                rw [hyc]
                simp
              rw [Lib.data_getElem? (S y) _ zl] at h2
              exact Option.some.inj h2
            have hext : (S y).extract 0 z.length = S z := by
              rw [extract_piece]
              show S (y.take z.length) = S z
              rw [hz, show (y.take (y.length - 1)).length = y.length - 1 by rw [List.length_take]; omega]
            have HM := Lib.hid (show strLen (.string (S z)) < strLen (.string (S y)) from (show z.length < y.length by omega))
            have hzl : z.length ≤ 1073741824 := by omega
            have h32 : c = 32 := beq_iff_eq.1 hsp
            have e1 : ((((S y)[z.length]'zl).toNat : Int) == 32) = true := by rw [zb, h32]; rfl
            clear hyc hz hc hsp zb hlen h32
            go_wp2
            go_round
            case rel => exact ⟨z, rfl, hzl, HN.out⟩
            case measure => exact HM.out
          · have HR := Lib.hid (show Ck.trim l = y by
              rw [HT.out, ← HX2.out, ← HY.out, Ck.dw_same spB y.reverse (fun c hc => by
                cases h : spB c with
                | false => rfl
                | true => exact absurd ⟨c, hc, h⟩ hgo), List.reverse_reverse])
            by_cases hy0 : y = []
            · subst hy0
              have h00 : ¬ 0 < (S ([] : List UInt8)).size := by show ¬ 0 < 0; omega
              clear hgo
              go_wp2
              go_ret
              exact ⟨by rw [HR.out]; rfl, rfl⟩
            · obtain ⟨c, hc⟩ : ∃ c, y.reverse.head? = some c := by
                cases h : y.reverse with
                | nil => exact absurd (List.reverse_eq_nil_iff.1 h) hy0
                | cons c r => exact ⟨c, rfl⟩
              have hsp : spB c = false := by
                cases h : spB c with
                | false => rfl
                | true => exact absurd ⟨c, hc, h⟩ hgo
              have hyc := last_byte hc
              obtain ⟨z, hz⟩ : ∃ z, z = y.take (y.length - 1) := ⟨_, rfl⟩
              rw [← hz] at hyc
              have hlen : y.length = z.length + 1 := by rw [hyc]; simp
              have hsz : (S y).size = z.length + 1 := hlen
              have z0 : 0 < (S y).size := by omega
              have zl : z.length < (S y).size := by omega
              have zb : (S y)[z.length]'zl = c := by
                have h2 : (S y).data.toList[z.length]? = some c := by
                  show y[z.length]? = some c
                  rw [hyc]
                  simp
                rw [Lib.data_getElem? (S y) _ zl] at h2
                exact Option.some.inj h2
              have hzl : z.length ≤ 1073741824 := by omega
              have e1 : ((((S y)[z.length]'zl).toNat : Int) == 32) = false := by rw [zb]; exact u8_ne (n := 32) 32 rfl (by unfold spB at hsp; simpa using hsp)
              clear hyc hz hc hsp zb hlen hgo hy0
              go_wp2
              go_ret
              exact ⟨by rw [HR.out]; rfl, rfl⟩
end Go.Proofs.YtpdilhnbbokipaaDoor
