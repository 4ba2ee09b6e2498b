/- What the document's Parse of package ticket answers, for any text of at most 2^30 bytes. -/
import Derived.Test.YtfeaonbeklmfgaaGreatDoorTkH
namespace Go.Proofs.YtfeaonbeklmfgaaGreatDoor
set_option maxRecDepth 8000
open Go.RowKit

theorem isName_split {s : List UInt8} {k n : Nat} (h : Tk.IsName s k n) : s.length = (Tk.pre k ++ [45]).length + 16 ∧ s.take (Tk.pre k ++ [45]).length = Tk.pre k ++ [45] ∧ s.drop (Tk.pre k ++ [45]).length = Tk.num n := by
  have e : s = (Tk.pre k ++ [45]) ++ Tk.num n := by rw [h.eq]; simp [Tk.name]
  rw [e]
  refine ⟨by rw [List.length_append, Tk.num_len], List.take_left' rfl, List.drop_left' rfl⟩
theorem all_take_step {l : List UInt8} {j : Nat} (hj : j < l.length) : (l.take (j + 1)).all Tk.isHx = ((l.take j).all Tk.isHx && Tk.isHx l[j]) := by
  rw [List.take_succ_eq_append_getElem hj, List.all_append]
  simp
theorem read_take_step {l : List UInt8} {j : Nat} (hj : j < l.length) : Tk.read (l.take (j + 1)) = 16 * Tk.read (l.take j) + Tk.val l[j] := by
  rw [List.take_succ_eq_append_getElem hj, Tk.read_snoc]

set_option maxHeartbeats 3200000 in
theorem refParse_any (s : List UInt8) (_ : s.length ≤ 1073741824) (w : World) :
    Calls Tryz.prog 60 #[.string (S s)] w fun e w' => e = .returned (tellV s) ∧ w' = w := by
  have hsz : (S s).size = s.length := rfl
  go_enter Tryz.func60, Tryz.ntmps60
  go_upto_region 2 with fail
  go_loop [5] (fun vk => ∃ k : Nat, vk = .int .i64 k ∧ 1 ≤ k ∧ k ≤ 7 ∧ Hid (∀ j n, j < k → ¬ Tk.IsName s j n)) (fun vk => 7 - (intOf vk).toNat)
  case atStart => exact ⟨1, rfl, by omega, by omega, Lib.hid fun j n hj h => by have := h.lo; omega⟩
  case round =>
    obtain ⟨k, rfl, h1, h7, hno⟩ := hrel
    by_cases hlt : k < 7
    · have hP := fun w' => refPrefix_any (k : Int) w'
      rw [preI_nat] at hP
      have hpl := (Tk.pre_facts k hlt).2 h1
      have a1 : ∀ w, (Op.stringOp .add (S (Tk.pre k)) ⟨#[45]⟩).run Tryz.prog w = .ok (.string (S (Tk.pre k ++ [45]))) w := fun w => run_add_S w (Tk.pre k) [45] (by simp; omega)
      have hsp : Hid (∀ n, Tk.IsName s k n → s.length = (Tk.pre k ++ [45]).length + 16 ∧ s.take (Tk.pre k ++ [45]).length = Tk.pre k ++ [45] ∧ s.drop (Tk.pre k ++ [45]).length = Tk.num n) := Lib.hid fun n h => isName_split h
      have hsb : Hid (∀ n, n < 18446744073709551616 → s = (Tk.pre k ++ [45]) ++ Tk.num n → Tk.IsName s k n) := Lib.hid fun n hn e => ⟨h1, by omega, hn, by rw [e]; simp [Tk.name]⟩
      have hpp : (Tk.pre k ++ [45]).length ≤ 7 := by simp; omega
      obtain ⟨P, hPq⟩ : ∃ P, P = Tk.pre k ++ [45] := ⟨_, rfl⟩
      rw [← hPq] at a1 hsp hsb hpp
      generalize Tk.pre k = pk at hP a1
      obtain ⟨np, hnp⟩ : ∃ np, np = P.length := ⟨_, rfl⟩
      have hps : (S P).size = np := by rw [hnp]; rfl
      rw [← hnp] at hsp hpp
      have HNP := Lib.hid hnp
      clear hPq hpl hnp
      have hnext : (∀ n, ¬ Tk.IsName s k n) → Hid (∀ j n, j < k + 1 → ¬ Tk.IsName s j n) := fun h => Lib.hid fun j n hj hn => by
        by_cases e : j = k
        · subst e; exact h n hn
        · exact hno.out j n (by omega) hn
      by_cases hm : s.length = np + 16
      · have hx : (S s).extract 0 np = S (s.take np) := by
          have := extract_piece (S s) 0 np
          rw [this, S_toList, List.drop_zero, Nat.sub_zero]
        by_cases hm2 : s.take np = P
        · have hD : (s.drop np).length = 16 := by rw [List.length_drop]; omega
          have hsD : s = P ++ s.drop np := by rw [← hm2, List.take_append_drop]
          have HSD := Lib.hid hsD
          clear hsD
          have c1 : (!((S (s.take np)).toList == (S P).toList)) = false := by rw [hm2]; simp
          have hget : ∀ j (h : j < 16), s[np + j]'(by omega) = (s.drop np)[j]'(by omega) := fun j h => by rw [List.getElem_drop]
          have hidx : ∀ j : Nat, j < 16 → ∀ w, (Instr.index 9 (.string (S s)) (.int .i64 ((np : Int) + (j : Int)))).run Tryz.prog w = .ok (B ((s.drop np).getD j 0)) w := fun j h w => by
            have := idx_S s (np + j) (by omega) w
            rw [hget j h] at this
            rw [show ((np : Int) + (j : Int)) = ((np + j : Nat) : Int) by omega, this]
            simp [List.getD, hD, h]
          clear hget
          generalize s.drop np = D at hD hidx HSD
          have HX := Lib.hid hm2
          have HM := Lib.hid hm
          have HNX := Lib.hid hnext
          clear hm2 hnext
          generalize s.take np = sp at hx c1
          have hm' : ((s.length : Nat) : Int) = (np : Int) + 16 := by omega
          clear hm
          go_upto_region 10 with (go_at_call 73; refine (hP _).mono ?_; rintro e w' ⟨rfl, rfl⟩)
          go_loop [8, 9, 10] (fun va vr vi => ∃ (j : Nat) (a : Int) (r : Bool), va = .int .u64 a ∧ vr = .bool r ∧ vi = .int .i64 ((np : Int) + (j : Int)) ∧ j ≤ 16 ∧ Hid (r = (D.take j).all Tk.isHx ∧ (r = true → a = (Tk.read (D.take j) : Int)))) (fun _ _ vi => np + 16 - (intOf vi).toNat)
          case atStart => exact ⟨0, 0, true, rfl, rfl, by simp, by omega, Lib.hid ⟨rfl, fun _ => rfl⟩⟩
          case round =>
            obtain ⟨j, a, r, rfl, rfl, rfl, hj, hh⟩ := hrel
            by_cases hjl : j < 16
            · have hi := hidx j hjl
              have hst1 := all_take_step (l := D) (j := j) (by omega)
              have hst2 := read_take_step (l := D) (j := j) (by omega)
              have hgd : D.getD j 0 = D[j]'(by omega) := by simp [List.getD, hD, hjl]
              rw [← hgd] at hst1 hst2
              generalize D.getD j 0 = c at hi hst1 hst2
              have hc256 := c.toNat_lt
              have HS1 := Lib.hid hst1
              have HS2 := Lib.hid hst2
              have hra : r = true → 0 ≤ a ∧ a < 1152921504606846976 := fun h => by
                have e := hh.out.2 h
                have e2 := hh.out.1
                rw [h] at e2
                have := Tk.read_lt j (D.take j) (by rw [List.length_take]; omega) e2.symm
                have h3 : (16 : Nat) ^ j ≤ 16 ^ 15 := Nat.pow_le_pow_right (by omega) (by omega)
                have h4 : (16 : Nat) ^ 15 = 1152921504606846976 := by decide
                omega
              have HRA := Lib.hid hra
              clear hgd hst1 hst2 hidx hra
              by_cases hdig : 48 ≤ c.toNat ∧ c.toNat ≤ 57
              · have hxx : Tk.isHx c = true := by unfold Tk.isHx; rw [decide_eq_true_iff]; omega
                have hv : Tk.val c = c.toNat - 48 := by unfold Tk.val; rw [if_pos hdig.2]
                cases r with
                | true =>
                  obtain ⟨b0, b1⟩ := HRA.out rfl
                  have hnew : Hid (true = (D.take (j + 1)).all Tk.isHx ∧ (true = true → 16 * a + ((c.toNat : Int) - 48) = (Tk.read (D.take (j + 1)) : Int))) := Lib.hid ⟨by rw [HS1.out, ← hh.out.1, hxx]; rfl, fun _ => by rw [HS2.out, hv]; have := hh.out.2 rfl; omega⟩
                  obtain ⟨d0, d1⟩ := hdig
                  clear hxx hv
                  go_wp2
                  go_round
                  case rel => exact ⟨j + 1, _, true, rfl, rfl, by go_num, by omega, hnew⟩
                  case measure => simp [intOf]; omega
                | false =>
                  have hnew : ∀ z : Int, Hid (false = (D.take (j + 1)).all Tk.isHx ∧ (false = true → z = (Tk.read (D.take (j + 1)) : Int))) := fun z => Lib.hid ⟨by rw [HS1.out, ← hh.out.1]; rfl, fun h => by cases h⟩
                  obtain ⟨d0, d1⟩ := hdig
                  clear hxx hv
                  go_wp2
                  go_round
                  case rel => exact ⟨j + 1, _, false, rfl, rfl, by go_num, by omega, hnew _⟩
                  case measure => simp [intOf]; omega
              · by_cases hlet : 97 ≤ c.toNat ∧ c.toNat ≤ 102
                · have hxx : Tk.isHx c = true := by unfold Tk.isHx; rw [decide_eq_true_iff]; omega
                  have hv : Tk.val c = c.toNat - 87 := by unfold Tk.val; rw [if_neg (by omega)]
                  cases r with
                  | true =>
                    obtain ⟨b0, b1⟩ := HRA.out rfl
                    have hnew : Hid (true = (D.take (j + 1)).all Tk.isHx ∧ (true = true → 16 * a + ((c.toNat : Int) - 97) + 10 = (Tk.read (D.take (j + 1)) : Int))) := Lib.hid ⟨by rw [HS1.out, ← hh.out.1, hxx]; rfl, fun _ => by rw [HS2.out, hv]; have := hh.out.2 rfl; omega⟩
                    obtain ⟨d0, d1⟩ := hlet
                    clear hxx hv
                    go_wp2
                    all_goals go_round
                    case rel => exact ⟨j + 1, _, true, rfl, rfl, by go_num, by omega, hnew⟩
                    case measure => simp [intOf]; omega
                  | false =>
                    have hnew : ∀ z : Int, Hid (false = (D.take (j + 1)).all Tk.isHx ∧ (false = true → z = (Tk.read (D.take (j + 1)) : Int))) := fun z => Lib.hid ⟨by rw [HS1.out, ← hh.out.1]; rfl, fun h => by cases h⟩
                    obtain ⟨d0, d1⟩ := hlet
                    clear hxx hv
                    go_wp2
                    all_goals go_round
                    case rel => exact ⟨j + 1, _, false, rfl, rfl, by go_num, by omega, hnew _⟩
                    case measure => simp [intOf]; omega
                · have hxx : Tk.isHx c = false := by unfold Tk.isHx; rw [decide_eq_false_iff_not]; omega
                  have hnew : ∀ z : Int, Hid (false = (D.take (j + 1)).all Tk.isHx ∧ (false = true → z = (Tk.read (D.take (j + 1)) : Int))) := fun z => Lib.hid ⟨by rw [HS1.out, hxx, Bool.and_false], fun h => by cases h⟩
                  clear hxx
                  go_wp2
                  all_goals go_round
                  all_goals first
                    | exact ⟨j + 1, _, false, rfl, rfl, by go_num, by omega, hnew _⟩
                    | (simp [intOf]; omega)
            · obtain ⟨e1, e2⟩ := hh.out
              have e3 : D.take j = D := List.take_of_length_le (by omega)
              rw [e3] at e1 e2
              cases r with
              | true =>
                have hnum := Tk.num_read hD e1.symm
                have hN := hsb.out (Tk.read D) hnum.1 (by rw [hnum.2]; exact HSD.out)
                have hfin := Lib.hid (tellV_name hN)
                have ea := e2 rfl
                subst ea
                clear e1 e2 e3 hnum hN hidx
                go_wp2
                go_ret3
                rw [hfin.out]
                exact ⟨rfl, rfl⟩
              | false =>
                have hnn : ∀ n, ¬ Tk.IsName s k n := fun n h => by
                  have h2 := (hsp.out n h).2.2
                  have h3 := HSD.out
                  have h4 : s.drop np = D := by rw [h3]; exact List.drop_left' HNP.out.symm
                  rw [h4] at h2
                  rw [h2, Tk.num_hx] at e1
                  cases e1
                have hrel' := HNX.out hnn
                clear hnn e1 e2 e3 hidx
                go_wp2
                go_round
                case rel => exact ⟨k + 1, by go_num, by omega, by omega, hrel'⟩
                case measure => simp [intOf]; omega
        · have hrel' := hnext fun n h => hm2 (hsp.out n h).2.1
          have c1 : (!((S (s.take np)).toList == (S P).toList)) = true := by rw [S_list, S_list]; simp [hm2]
          generalize s.take np = sp at hx c1
          have hm' : ((s.length : Nat) : Int) = (np : Int) + 16 := by omega
          clear hm hm2 hnext
          go_wp2_with (go_at_call 73; refine (hP _).mono ?_; rintro e w' ⟨rfl, rfl⟩)
          go_round
          case rel => exact ⟨k + 1, by go_num, by omega, by omega, hrel'⟩
          case measure => simp [intOf]; omega
      · have hrel' := hnext fun n h => hm (hsp.out n h).1
        have c1 : (((s.length : Nat) : Int) != (np : Int) + 16) = true := by simp; omega
        clear hm hnext
        go_wp2_with (go_at_call 73; refine (hP _).mono ?_; rintro e w' ⟨rfl, rfl⟩)
        go_round
        case rel => exact ⟨k + 1, by go_num, by omega, by omega, hrel'⟩
        case measure => simp [intOf]; omega
    · have hfin := Lib.hid (tellV_none (s := s) fun j n h => hno.out j n (by have := h.hi; omega) h)
      go_wp2
      go_ret3
      rw [hfin.out]
      exact ⟨rfl, rfl⟩
end Go.Proofs.YtfeaonbeklmfgaaGreatDoor
