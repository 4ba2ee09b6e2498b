/- The statement ResponseUnlike answers true, for any two responses with texts of at most 2^30 bytes, where the variables of the library that it reaches read as their texts lay them. -/
import Derived.Test.YtehgigfngelkjaaDoorEp
namespace Go.Proofs.YtehgigfngelkjaaDoor
set_option maxRecDepth 8000
open Go.RowKit

namespace Rsp
open Pct (PairL)
theorem dec_inj {a b : Nat} (ha : a ≤ 99999999) (hb : b ≤ 99999999) (h : Lib.decDigits a = Lib.decDigits b) : a = b := by
  have h1 := Ck.atoi_dec a ha
  have h2 := Ck.atoi_dec b hb
  rw [h] at h1
  omega
/-- None is the beginning of another one. -/
theorem write_begins {s s' : Int} {l l' : List PairL} {b b' m : Bytes} (h : right s l b = true) (h' : right s' l' b' = true) (e : write s' l' b' = write s l b ++ m) : (s, l, b) = (s', l', b') := by
  have h1 : write s' l' b' = join (Ls s l b) ++ (gap ++ (b ++ m)) := by rw [e, write_join]; simp
  have hc := cut_gap (b ++ m) (Ls s l b) (by simp [Ls]) (Ls_ok h)
  have hc' := cut_gap b' (Ls s' l' b') (by simp [Ls]) (Ls_ok h')
  rw [← write_join, h1, hc] at hc'
  simp only [Prod.mk.injEq, and_true] at hc'
  obtain ⟨hj, hb⟩ := hc'
  have p1 := pieces_join (Ls s l b) (by simp [Ls]) (fun a ha => (Ls_ok h a ha).2)
  have p2 := pieces_join (Ls s' l' b') (by simp [Ls]) (fun a ha => (Ls_ok h' a ha).2)
  rw [hj, p2] at p1
  have hlast : hline (lenName, Lib.decDigits b'.length) = hline (lenName, Lib.decDigits b.length) := by
    have e1 : (Ls s l b).getLast? = some (hline (lenName, Lib.decDigits b.length)) := by unfold Ls all; rw [List.map_append, List.map_singleton, List.getLast?_cons, List.getLast?_append]; rfl
    have e2 : (Ls s' l' b').getLast? = some (hline (lenName, Lib.decDigits b'.length)) := by unfold Ls all; rw [List.map_append, List.map_singleton, List.getLast?_cons, List.getLast?_append]; rfl
    rw [p1, e1] at e2
    exact (Option.some.inj e2).symm
  have hd : Lib.decDigits b'.length = Lib.decDigits b.length := by
    unfold hline at hlast
    have := List.append_cancel_left hlast
    exact List.append_cancel_left this
  have hb8 := (right_parts h).2.2.2.2
  have hb8' := (right_parts h').2.2.2.2
  have hlen := dec_inj (by omega) (by omega) hd
  have hm : m = [] := by
    have := congrArg List.length hb
    rw [List.length_append] at this
    exact List.length_eq_zero_iff.1 (by omega)
  rw [hm, List.append_nil] at e
  have r1 := read_write h
  have r2 := read_write h'
  rw [e, r1] at r2
  exact Option.some.inj r2
end Rsp
theorem res_cases (s : Int) (l : List Pct.PairL) (b : List UInt8) : ∃ (t : List UInt8) (n : Int), writeRes s l b = .tuple #[.string (S t), .int .i64 n] ∧ ((Rsp.right s l b = true ∧ t = Rsp.write s l b ∧ n = 0) ∨ (Rsp.right s l b = false ∧ n = 1)) := by
  unfold writeRes
  cases h : Rsp.right s l b with
  | true => exact ⟨_, _, by rw [if_pos rfl], .inl ⟨rfl, rfl, rfl⟩⟩
  | false => exact ⟨[], 1, by rw [if_neg (by decide)]; rfl, .inr ⟨rfl, rfl⟩⟩

set_option maxHeartbeats 3200000 in
theorem responseUnlike_any (s : Int) (A : Option Addr) (cap : Nat) (l : List Pct.PairL) (b : List UInt8) (s' : Int) (A' : Option Addr) (cap' : Nat) (l' : List Pct.PairL) (b' : List UInt8) (W : World) (he : EnvC W) (hs : (Lit.int .i64 s).wf = true) (hl : PCells W W.heap.size A l) (hcap : l.length ≤ cap) (hnil : A = none → cap = 0)
    (hs' : (Lit.int .i64 s').wf = true) (hl' : PCells W W.heap.size A' l') (hcap' : l'.length ≤ cap') (hnil' : A' = none → cap' = 0)
    (hq : ∀ k (h : k < l.length), l[k].1.length ≤ 1073741824 ∧ l[k].2.length ≤ 1073741824) (hq' : ∀ k (h : k < l'.length), l'[k].1.length ≤ 1073741824 ∧ l'[k].2.length ≤ 1073741824) (hm : l.length ≤ 1099511627776) (hm' : l'.length ≤ 1099511627776) :
    Calls Tryd.prog 6 #[rspV s (.slice A l.length cap) b, rspV s' (.slice A' l'.length cap') b'] W (AwakePost W) := by
  unfold rspV
  go_enter Tryd.func6, Tryd.ntmps6
  go_upto_region 1 with fail
  have B0 : BlkR ((W.alloc (.cells #[.int .i64 s, .slice A l.length cap, .string (S b)] 24)).alloc (.cells #[.int .i64 s', .slice A' l'.length cap', .string (S b')] 24)) W.heap.size (.int .i64 s) (.slice A l.length cap) (.string (S b)) := (Below.heap_alloc _ _ _ (by simp)).trans (heap_alloc_new W _)
  have C0 : BlkR ((W.alloc (.cells #[.int .i64 s, .slice A l.length cap, .string (S b)] 24)).alloc (.cells #[.int .i64 s', .slice A' l'.length cap', .string (S b')] 24)) (W.heap.size + 1) (.int .i64 s') (.slice A' l'.length cap') (.string (S b')) := by
    have h := heap_alloc_new (W.alloc (.cells #[.int .i64 s, .slice A l.length cap, .string (S b)] 24)) (.cells #[.int .i64 s', .slice A' l'.length cap', .string (S b')] 24)
    have hz : (W.alloc (.cells #[.int .i64 s, .slice A l.length cap, .string (S b)] 24)).heap.size = W.heap.size + 1 := by simp
    rw [hz] at h
    exact h
  have hb0 : Below W.heap.size W ((W.alloc (.cells #[.int .i64 s, .slice A l.length cap, .string (S b)] 24)).alloc (.cells #[.int .i64 s', .slice A' l'.length cap', .string (S b')] 24)) := ((Below.refl _ _).alloc (Nat.le_refl _) _).alloc (by simp) _
  have hs0 : W.heap.size + 1 < ((W.alloc (.cells #[.int .i64 s, .slice A l.length cap, .string (S b)] 24)).alloc (.cells #[.int .i64 s', .slice A' l'.length cap', .string (S b')] 24)).heap.size := by simp
  generalize ((W.alloc (.cells #[.int .i64 s, .slice A l.length cap, .string (S b)] 24)).alloc (.cells #[.int .i64 s', .slice A' l'.length cap', .string (S b')] 24)) = W0 at B0 C0 hb0 hs0 ⊢
  have HR := Lib.hid (fun w' (h : Below W0.heap.size W0 w') => (show BlkR w' W.heap.size (.int .i64 s) (.slice A l.length cap) (.string (S b)) from (h.block _ (by omega)).trans B0))
  have HR' := Lib.hid (fun w' (h : Below W0.heap.size W0 w') => (show BlkR w' (W.heap.size + 1) (.int .i64 s') (.slice A' l'.length cap') (.string (S b')) from (h.block _ hs0).trans C0))
  have HE := Lib.hid (show ∀ w', Below W0.heap.size W0 w' → EnvC w' from fun w' h => he.next (hb0.trans (h.mono (by omega))))
  have HEND := Lib.hid (show ∀ w', Below W0.heap.size W0 w' → AwakePost W (.returned (.bool true)) w' from fun w' h => ⟨rfl, hb0.trans (h.mono (by omega))⟩)
  have HWQ := Lib.hid (show ∀ w', Below W0.heap.size W0 w' → Wr w' (.slice A l.length cap) l from fun w' h => ⟨A, cap, rfl, (hl.next hb0).next h, hcap, hnil⟩)
  have HWQ' := Lib.hid (show ∀ w', Below W0.heap.size W0 w' → Wr w' (.slice A' l'.length cap') l' from fun w' h => ⟨A', cap', rfl, (hl'.next hb0).next h, hcap', hnil'⟩)
  have HP := Lib.hid (fun w' (h : Below W0.heap.size W0 w') => (hl.next hb0).next h)
  have HP' := Lib.hid (fun w' (h : Below W0.heap.size W0 w') => (hl'.next hb0).next h)
  have HQ := Lib.hid hq
  have HQ' := Lib.hid hq'
  clear B0 C0 hb0 hs0 he hl hl' hcap hnil hcap' hnil' hq hq'
  go_wp2_with fail
  refine (awake_any W0 (HE.out _ (Below.refl _ _))).mono ?_
  rintro e w1 ⟨rfl, hb1⟩
  have r0 := (HR.out _ hb1).c0
  have r1 := (HR.out _ hb1).c1
  have r2 := (HR.out _ hb1).c2
  go_wp2_with fail
  refine (refFew_any s A cap l b w1 (HP.out _ hb1) (by omega)).mono ?_
  rintro e w2 ⟨rfl, hbx⟩
  have hb2 : Below W0.heap.size W0 w2 := hb1.trans (hbx.mono hb1.size)
  clear r0 r1 r2 hbx hb1
  have r0 := (HR'.out _ hb2).c0
  have r1 := (HR'.out _ hb2).c1
  have r2 := (HR'.out _ hb2).c2
  go_wp2_with fail
  refine (refFew_any s' A' cap' l' b' w2 (HP'.out _ hb2) (by omega)).mono ?_
  rintro e w3 ⟨rfl, hbx⟩
  have hb3 : Below W0.heap.size W0 w3 := hb2.trans (hbx.mono hb2.size)
  clear r0 r1 r2 hbx hb2
  obtain ⟨t1, n1, hres1, hc1⟩ := res_cases s l b
  obtain ⟨t2, n2, hres2, hc2⟩ := res_cases s' l' b'
  have hW1 := write_to s _ l b w3 (HE.out _ hb3) hs (HWQ.out _ hb3) HQ.out
  rw [hres1] at hW1
  clear hres1
  have r0 := (HR.out _ hb3).c0
  have r1 := (HR.out _ hb3).c1
  have r2 := (HR.out _ hb3).c2
  have HC1 := Lib.hid hc1
  have HC2 := Lib.hid hc2
  clear hc1 hc2
  go_wp2_with fail
  refine hW1.mono ?_
  rintro e w4 ⟨rfl, hbx⟩
  have hb4 : Below W0.heap.size W0 w4 := hb3.trans (hbx.mono hb3.size)
  clear r0 r1 r2 hbx hb3 hW1
  have hW2 := write_to s' _ l' b' w4 (HE.out _ hb4) hs' (HWQ'.out _ hb4) HQ'.out
  rw [hres2] at hW2
  clear hres2
  have r0 := (HR'.out _ hb4).c0
  have r1 := (HR'.out _ hb4).c1
  have r2 := (HR'.out _ hb4).c2
  go_wp2_with fail
  refine hW2.mono ?_
  rintro e w5 ⟨rfl, hbx⟩
  have hb5 : Below W0.heap.size W0 w5 := hb4.trans (hbx.mono hb4.size)
  clear r0 r1 r2 hbx hb4 hW2
  generalize fewR l b = f1
  generalize fewR l' b' = f2
  cases f1 with
  | false =>
    go_wp2
    go_ret
    exact HEND.out _ hb5
  | true =>
    cases f2 with
    | false =>
      go_wp2
      go_ret
      exact HEND.out _ hb5
    | true =>
      by_cases hn1 : n1 = 0
      · subst hn1
        by_cases hn2 : n2 = 0
        · subst hn2
          have h1 : Rsp.right s l b = true ∧ t1 = Rsp.write s l b := by
            rcases HC1.out with ⟨a, b, _⟩ | ⟨_, c⟩
            · exact ⟨a, b⟩
            · exact absurd c (by decide)
          have h2 : Rsp.right s' l' b' = true ∧ t2 = Rsp.write s' l' b' := by
            rcases HC2.out with ⟨a, b, _⟩ | ⟨_, c⟩
            · exact ⟨a, b⟩
            · exact absurd c (by decide)
          have hz1 : (S t1).size = t1.length := rfl
          have hz2 : (S t2).size = t2.length := rfl
          have hSm := same_any s _ l b s' _ l' b' w5 (HWQ.out _ hb5) (HWQ'.out _ hb5) hm
          have r0 := (HR.out _ hb5).c0
          have r1 := (HR.out _ hb5).c1
          have r2 := (HR.out _ hb5).c2
          have y0 := (HR'.out _ hb5).c0
          have y1 := (HR'.out _ hb5).c1
          have y2 := (HR'.out _ hb5).c2
          clear HC1 HC2
          by_cases heq : (s, l, b) = (s', l', b')
          · rw [sameR_is.2 heq] at hSm
            have htt : t2 = t1 := by
              rw [h1.2, h2.2]
              simp only [Prod.mk.injEq] at heq
              obtain ⟨rfl, rfl, rfl⟩ := heq
              rfl
            have hx : (S t1).extract 0 t1.length = S t1 := by rw [extract_piece, S_toList]; simp
            have hi : (0 : Int) ≤ (t1.length : Int) := by omega
            clear heq h1 h2
            subst htt
            go_wp2_with fail
            refine hSm.mono ?_
            rintro e w6 ⟨rfl, hbx⟩
            have hb6 : Below W0.heap.size W0 w6 := hb5.trans (hbx.mono hb5.size)
            clear r0 r1 r2 y0 y1 y2 hbx hSm
            go_wp2
            go_ret
            exact HEND.out _ hb6
          · have hsm : sameR s l b s' l' b' = false := by
              cases h : sameR s l b s' l' b' with
              | false => rfl
              | true => exact absurd (sameR_is.1 h) heq
            rw [hsm] at hSm
            have hne : t1 ≠ t2 := fun e => heq (Rsp.write_begins (m := []) h1.1 h2.1 (by rw [← h1.2, ← h2.2, e, List.append_nil]))
            have hne1 : ((S t1).toList == (S t2).toList) = false := by rw [S_list, S_list]; exact beq_eq_false_iff_ne.2 hne
            have hi : (0 : Int) ≤ (t1.length : Int) := by omega
            by_cases hlen : t1.length ≤ t2.length
            · have hx : (S t2).extract 0 t1.length = S (t2.take t1.length) := by rw [extract_piece, S_toList]; simp
              have hne2 : t2.take t1.length ≠ t1 := by
                intro e
                have h := List.take_append_drop t1.length t2
                rw [e] at h
                exact heq (Rsp.write_begins (m := t2.drop t1.length) h1.1 h2.1 (by rw [← h1.2, ← h2.2]; exact h.symm))
              have hlI : (t1.length : Int) ≤ (t2.length : Int) := by omega
              generalize t2.take t1.length = u at hx hne2
              have hne3 : ((S u).toList == (S t1).toList) = false := by rw [S_list, S_list]; exact beq_eq_false_iff_ne.2 hne2
              clear heq h1 h2 hsm
              go_wp2_with fail
              refine hSm.mono ?_
              rintro e w6 ⟨rfl, hbx⟩
              have hb6 : Below W0.heap.size W0 w6 := hb5.trans (hbx.mono hb5.size)
              clear r0 r1 r2 y0 y1 y2 hbx hSm
              go_wp2
              go_ret
              exact HEND.out _ hb6
            · have hlI : ¬ (t1.length : Int) ≤ (t2.length : Int) := by omega
              clear heq h1 h2 hsm
              go_wp2_with fail
              refine hSm.mono ?_
              rintro e w6 ⟨rfl, hbx⟩
              have hb6 : Below W0.heap.size W0 w6 := hb5.trans (hbx.mono hb5.size)
              clear r0 r1 r2 y0 y1 y2 hbx hSm
              go_wp2
              go_ret
              exact HEND.out _ hb6
        · go_wp2
          go_ret
          exact HEND.out _ hb5
      · go_wp2
        go_ret
        exact HEND.out _ hb5
end Go.Proofs.YtehgigfngelkjaaDoor
