/- What package url's Dots, Origin and String answer, for any text or URL of texts of at most 2^30 bytes and a port from 0 on, where the library's table of powers reads as its text lays it. -/
import Derived.Test.YtbpeohadgplaaaaDoorVg
import Derived.Test.YtbpeohadgplaaaaDoorUrlG
namespace Go.Proofs.YtbpeohadgplaaaaDoor
set_option maxRecDepth 8000
open Go.RowKit

theorem dots_any (l : List UInt8) (w : World) (hs : l.length ≤ 1073741824) :
    Calls Tryd.prog 45 #[.string (S l)] w (Told w (.returned (.string (S (Url.dots l))))) := by
  by_cases hp : ∃ t, l = 47 :: t
  · obtain ⟨t, rfl⟩ := hp
    exact dots_slash t w (by simp at hs; omega)
  · have e1 : Lib.hasPrefix l [47] = false := by
      match l, hp with
      | [], _ => rfl
      | c :: t, hp =>
        have : c ≠ 47 := fun e => hp ⟨t, by rw [e]⟩
        simp [Lib.hasPrefix, List.isPrefixOf]
        exact fun h => this h.symm
    have hcp : ∀ w1 : World, Calls Tryd.prog 73 #[.string (S l), .string ⟨#[47]⟩] w1 fun e w' => e = .returned (.tuple #[.string (S (Lib.trimPrefix l [47])), .bool (Lib.hasPrefix l [47])]) ∧ w' = w1 := fun w1 => cutPrefix_to l [47] w1
    rw [e1] at hcp
    have HR := Lib.hid (show Url.dots l = l by
      match l, hp with
      | [], _ => rfl
      | c :: t, hp =>
        have : c ≠ 47 := fun e => hp ⟨t, by rw [e]⟩
        simp [Url.dots, this])
    clear e1 hp
    go_enter Tryd.func45, Tryd.ntmps45
    go_wp2
    go_step3
    go_wp2_with (go_at_call 73; refine (hcp _).mono ?_; rintro e w1 ⟨rfl, rfl⟩)
    rw [Exit.noGoto_ret]
    go_ret
    exact ⟨by rw [HR.out]; rfl, Below.refl _ _⟩

theorem dec_digits (n : Nat) : Lib.decDigits n = Url.digits n := by
  induction n using Nat.strongRecOn with
  | ind n ih =>
    rw [Lib.decDigits]
    by_cases h : n < 10
    · rw [dif_pos h, digits_few (by omega)]
    · rw [dif_neg h, digits_more (by omega), ih (n / 10) (by omega)]

theorem itoa_any (n : Nat) (w : World) (he : Env w) (hn : n ≤ 9223372036854775807) :
    Calls Tryd.prog 106 #[.int .i64 (n : Int)] w (Told w (.returned (.string (S (Url.digits n))))) := by
  refine (Tryd.strconv_Itoa (n : Int) (by omega) (by omega) w he.tab).mono ?_
  rintro e w' ⟨rfl, k, os, rfl⟩
  refine ⟨?_, ?_⟩
  · unfold Lib.itoa
    rw [if_neg (by omega), Int.toNat_natCast, dec_digits]
    rfl
  · refine (below_drewN (Below.refl w.heap.size w) k).trans ⟨rfl, rfl, rfl, by simp [Go.Sort.grow], fun i hi => ?_⟩
    show ((w.drewN k).heap ++ os)[i]? = _
    rw [Array.getElem?_append_left (by simpa using hi)]

set_option maxHeartbeats 400000 in
theorem origin_any (u : Url.U) (w : World) (he : Env w) (hu : Few u) :
    Calls Tryd.prog 81 #[uV u] w (Told w (.returned (.string (S (Url.origin u))))) := by
  obtain ⟨h1, h2, h3, h4, h5⟩ := hu
  by_cases hp : u.port = 0
  · have HR := Lib.hid (origin_none hp)
    obtain ⟨sc, ho, po, pa, qu, ak⟩ := u
    simp only at h1 h2 h3 h4 h5 hp HR
    unfold uV uCells
    subst hp
    have a1 : ∀ w' : World, (Op.stringOp .add (S sc) ⟨#[58, 47, 47]⟩).run Tryd.prog w' = .ok (.string (S (sc ++ [58, 47, 47]))) w' := fun w' => run_add_S' w' sc [58, 47, 47] (by simp; omega)
    obtain ⟨o1, ho1⟩ : ∃ o1, o1 = sc ++ [58, 47, 47] := ⟨_, rfl⟩
    have hl1 : o1.length = sc.length + 3 := by rw [ho1]; simp
    rw [← ho1] at a1 HR
    clear ho1
    have a2 := fun w' : World => run_add_S' w' o1 ho (by omega)
    go_enter Tryd.func81, Tryd.ntmps81
    go_wp2
    go_ret
    exact ⟨ret_string HR.out, (Below.refl _ _).alloc (Nat.le_refl _) _⟩
  · have HR := Lib.hid (origin_some hp)
    obtain ⟨sc, ho, po, pa, qu, ak⟩ := u
    simp only at h1 h2 h3 h4 h5 hp HR
    unfold uV uCells
    have a1 : ∀ w' : World, (Op.stringOp .add (S sc) ⟨#[58, 47, 47]⟩).run Tryd.prog w' = .ok (.string (S (sc ++ [58, 47, 47]))) w' := fun w' => run_add_S' w' sc [58, 47, 47] (by simp; omega)
    obtain ⟨o1, ho1⟩ : ∃ o1, o1 = sc ++ [58, 47, 47] := ⟨_, rfl⟩
    have hl1 : o1.length = sc.length + 3 := by rw [ho1]; simp
    rw [← ho1] at a1 HR
    clear ho1
    have a2 := fun w' : World => run_add_S' w' o1 ho (by omega)
    obtain ⟨o2, ho2⟩ : ∃ o2, o2 = o1 ++ ho := ⟨_, rfl⟩
    have hl2 : o2.length = o1.length + ho.length := by rw [ho2]; simp
    rw [← ho2] at a2 HR
    clear ho2
    rw [List.append_assoc] at HR
    have hdl := digits_len20 po h3
    have HI := Lib.hid (fun w' : World => fun he' : Env w' => itoa_any po w' he' h3)
    obtain ⟨dg, hdg⟩ : ∃ dg, dg = Url.digits po := ⟨_, rfl⟩
    rw [← hdg] at hdl HI HR
    clear hdg
    have a3 : ∀ w' : World, (Op.stringOp .add ⟨#[58]⟩ (S dg)).run Tryd.prog w' = .ok (.string (S ([58] ++ dg))) w' := fun w' => run_add_S' w' [58] dg (by simp; omega)
    obtain ⟨o3, ho3⟩ : ∃ o3, o3 = [58] ++ dg := ⟨_, rfl⟩
    have hl3 : o3.length = dg.length + 1 := by rw [ho3]; simp
    rw [← ho3] at a3 HR
    clear ho3
    have a4 := fun w' : World => run_add_S' w' o2 o3 (by omega)
    have hp' : ((po : Int) != 0) = true := by simp; omega
    have he1 := he.next ((Below.refl _ _).alloc (Nat.le_refl _) (.cells #[.string (S sc), .string (S ho), .int .i64 po, .string (S pa), .string (S qu), .bool ak] 24))
    go_enter Tryd.func81, Tryd.ntmps81
    go_wp2_with (go_at_call 106; refine (HI.out _ he1).mono ?_; rintro e w' ⟨rfl, hb⟩)
    go_ret
    exact ⟨ret_string HR.out, ((Below.refl _ _).alloc (Nat.le_refl _) _).trans (hb.mono (by simp))⟩
end Go.Proofs.YtbpeohadgplaaaaDoor
