/- What the document's mark and Escape answer, for any text of at most 2^30 bytes; what strings.ReplaceAll answers. -/
import Derived.Test.YtcfgppdbclajfaaDoorCa
import Derived.Test.YtcfgppdbclajfaaDoorXmPure
import Derived.Test.YtcfgppdbclajfaaDoorShelf
namespace Go.Proofs.YtcfgppdbclajfaaDoor
set_option maxRecDepth 8000
open Go.RowKit

set_option maxHeartbeats 800000 in
theorem mark_any (c : UInt8) (w : World) :
    Calls Tryd.prog 21 #[B c] w fun e w' => e = .returned (.string (S (Xm.mark c))) ∧ w = w' := by
  have HR := Lib.hid (show Xm.mark c = if c = 38 then Xm.wAmp else if c = 60 then Xm.wLt else if c = 62 then Xm.wGt else if c = 34 then Xm.wQuot else if c = 39 then Xm.wApos else [] from rfl)
  by_cases h0 : c = 38
  · have HV := Lib.hid (show Xm.mark c = Xm.wAmp by rw [HR.out, if_pos h0])
    have k0 : ((c.toNat : Int) == 38) = true := by rw [h0]; rfl
    clear h0
    go_enter Tryd.func21, Tryd.ntmps21
    go_wp2
    go_ret
    exact ⟨by rw [HV.out]; rfl, rfl⟩
  have k0 := u8_ne (n := 38) 38 rfl h0
  by_cases h1 : c = 60
  · have HV := Lib.hid (show Xm.mark c = Xm.wLt by rw [HR.out, if_neg h0, if_pos h1])
    have k1 : ((c.toNat : Int) == 60) = true := by rw [h1]; rfl
    clear h0 h1
    go_enter Tryd.func21, Tryd.ntmps21
    go_wp2
    go_ret
    exact ⟨by rw [HV.out]; rfl, rfl⟩
  have k1 := u8_ne (n := 60) 60 rfl h1
  by_cases h2 : c = 62
  · have HV := Lib.hid (show Xm.mark c = Xm.wGt by rw [HR.out, if_neg h0, if_neg h1, if_pos h2])
    have k2 : ((c.toNat : Int) == 62) = true := by rw [h2]; rfl
    clear h0 h1 h2
    go_enter Tryd.func21, Tryd.ntmps21
    go_wp2
    go_ret
    exact ⟨by rw [HV.out]; rfl, rfl⟩
  have k2 := u8_ne (n := 62) 62 rfl h2
  by_cases h3 : c = 34
  · have HV := Lib.hid (show Xm.mark c = Xm.wQuot by rw [HR.out, if_neg h0, if_neg h1, if_neg h2, if_pos h3])
    have k3 : ((c.toNat : Int) == 34) = true := by rw [h3]; rfl
    clear h0 h1 h2 h3
    go_enter Tryd.func21, Tryd.ntmps21
    go_wp2
    go_ret
    exact ⟨by rw [HV.out]; rfl, rfl⟩
  have k3 := u8_ne (n := 34) 34 rfl h3
  by_cases h4 : c = 39
  · have HV := Lib.hid (show Xm.mark c = Xm.wApos by rw [HR.out, if_neg h0, if_neg h1, if_neg h2, if_neg h3, if_pos h4])
    have k4 : ((c.toNat : Int) == 39) = true := by rw [h4]; rfl
    clear h0 h1 h2 h3 h4
    go_enter Tryd.func21, Tryd.ntmps21
    go_wp2
    go_ret
    exact ⟨by rw [HV.out]; rfl, rfl⟩
  have k4 := u8_ne (n := 39) 39 rfl h4
  have HV := Lib.hid (show Xm.mark c = [] by rw [HR.out, if_neg h0, if_neg h1, if_neg h2, if_neg h3, if_neg h4])
  clear h0 h1 h2 h3 h4
  go_enter Tryd.func21, Tryd.ntmps21
  go_wp2
  go_ret
  exact ⟨by rw [HV.out]; rfl, rfl⟩

theorem esc1_len (c : UInt8) : (Xm.esc1 c).length ≤ 6 := by
  have := Xm.byte_all (P := fun c => decide ((Xm.esc1 c).length ≤ 6)) (by decide +kernel) c
  exact of_decide_eq_true this
theorem escape_len : ∀ l : List UInt8, (Xm.escape l).length ≤ 6 * l.length
  | [] => by simp [Xm.escape]
  | c :: l => by
    have ih := escape_len l
    have h1 := esc1_len c
    have e : Xm.escape (c :: l) = Xm.esc1 c ++ Xm.escape l := rfl
    rw [e, List.length_append, List.length_cons]
    omega
set_option maxHeartbeats 800000 in
theorem refEscape_any (l : List UInt8) (w : World) (hs : l.length ≤ 1073741824) :
    Calls Tryd.prog 12 #[.string (S l)] w fun e w' => e = .returned (.string (S (Xm.escape l))) ∧ w = w' := by
  obtain ⟨s, hv⟩ : ∃ s, s = S l := ⟨_, rfl⟩
  have HSL := Lib.hid (show s.data.toList = l by rw [hv]; exact S_toList l)
  have hsz : s.size = l.length := by rw [hv]; rfl
  rw [← hv]
  clear hv
  go_enter Tryd.func12, Tryd.ntmps12
  go_wp2
  go_loop [3, 4] (fun t i => ∃ k : Nat, k ≤ l.length ∧ i = .int .i64 k ∧ t = .string (S (Xm.escape (l.take k)))) (fun _ i => l.length - (intOf i).toNat)
  case atStart => exact ⟨0, Nat.zero_le _, rfl, rfl⟩
  case round =>
    obtain ⟨k, hk, rfl, ht⟩ := hrel
    have HTL := Lib.hid (escape_len (l.take k))
    have htk : (l.take k).length ≤ k := List.length_take_le _ _
    obtain ⟨acc, hacc⟩ : ∃ acc, acc = Xm.escape (l.take k) := ⟨_, rfl⟩
    rw [← hacc] at ht
    subst ht
    have hal : acc.length ≤ 6442450944 := by rw [hacc]; have := HTL.out; omega
    have HACC := Lib.hid hacc
    clear hacc HTL htk
    by_cases hlt : k < l.length
    · have hks : k < s.size := by omega
      have HC := Lib.hid (show l[k] = s[k] by
        have h := HSL.out
        subst h
        rfl)
      have HN := Lib.hid (show Xm.escape (l.take (k + 1)) = acc ++ Xm.esc1 s[k] by
        rw [List.take_succ_eq_append_getElem hlt, Xm.escape_app, HACC.out, HC.out]
        simp [Xm.escape])
      have hM := fun w' => mark_any s[k] w'
      have hx := extract_one s k hks
      have hw1 : IntKind.i64.wrap ((k : Int) + 1) = (k : Int) + 1 := IntWalk.i64_in _ (by omega)
      have j0 : (0 : Int) ≤ (k : Int) := by omega
      have j1 : (k : Int) < (l.length : Int) := by omega
      have j2 : (k : Int) + 1 ≤ (l.length : Int) := by omega
      have j3 : (k : Int) ≤ (k : Int) + 1 := by omega
      have j4 : ((k : Int) + 1).toNat = k + 1 := by omega
      have hE := S_empty (Xm.mark s[k])
      cases hm : (Xm.mark s[k]).isEmpty with
      | true =>
        rw [hm] at hE
        have he : Xm.esc1 s[k] = [s[k]] := by unfold Xm.esc1; rw [if_pos (List.isEmpty_iff.1 hm)]
        rw [he] at HN
        have a1 := fun w' : World => run_add_S w' acc [s[k]] (by simp; omega)
        clear hm he
        generalize Xm.mark s[k] = m at hM hE
        go_wp2_with fail
        refine (hM _).mono ?_
        rintro e w1 ⟨rfl, rfl⟩
        go_wp2
        go_round
        case rel => exact ⟨k + 1, by omega, by go_num, by rw [HN.out]⟩
        case measure => simp [intOf]; omega
      | false =>
        rw [hm] at hE
        have he : Xm.esc1 s[k] = Xm.mark s[k] := by unfold Xm.esc1; rw [if_neg (fun e => by rw [e] at hm; cases hm)]
        have hml : (Xm.mark s[k]).length ≤ 6 := by rw [← he]; exact esc1_len _
        rw [he] at HN
        have a1 := fun w' : World => run_add_S w' acc (Xm.mark s[k]) (by omega)
        clear hm he
        generalize Xm.mark s[k] = m at hM hE a1 HN
        go_wp2_with fail
        refine (hM _).mono ?_
        rintro e w1 ⟨rfl, rfl⟩
        go_wp2
        go_round
        case rel => exact ⟨k + 1, by omega, by go_num, by rw [HN.out]⟩
        case measure => simp [intOf]; omega
    · have HW := Lib.hid (show acc = Xm.escape l by rw [HACC.out, List.take_of_length_le (by omega)])
      go_wp2
      go_ret
      exact ⟨by rw [← HW.out]; rfl, rfl⟩
end Go.Proofs.YtcfgppdbclajfaaDoor
