/- How many are left: roomBehind of package xml and the document's Few, for any element that reads as a tree. -/
import Derived.Test.YtpleaopefngafaaDoorXmT
import Derived.Deep.Draws
namespace Go.Proofs.YtpleaopefngafaaDoor
set_option maxRecDepth 8000
open Go.RowKit

/-- How long the lists of an element, and of all below it, may be. -/
def Lim (m : Nat) (n : Xm.N) : Prop := n.attrs.length ≤ m ∧ n.kids.length ≤ m ∧ n.name.length ≤ m ∧ n.text.length ≤ m ∧ ∀ p ∈ n.attrs, p.1.length ≤ m ∧ p.2.length ≤ m
mutual
def All (P : Xm.N → Prop) : Xm.N → Prop
  | .mk nm ats tx ks => P (.mk nm ats tx ks) ∧ AllL P ks
def AllL (P : Xm.N → Prop) : List Xm.N → Prop
  | [] => True
  | k :: ks => All P k ∧ AllL P ks
end
theorem All.here {P : Xm.N → Prop} {n : Xm.N} (h : All P n) : P n := by
  cases n with
  | mk nm ats tx ks => unfold All at h; exact h.1
theorem All.kid {P : Xm.N → Prop} {n : Xm.N} (h : All P n) {i : Nat} (hi : i < n.kids.length) : All P n.kids[i] := by
  have hl : ∀ (ks : List Xm.N) (j : Nat) (hj : j < ks.length), AllL P ks → All P ks[j] := by
    intro ks
    induction ks with
    | nil => intro j hj; simp at hj
    | cons k ks ih =>
      intro j hj hh
      unfold AllL at hh
      cases j with
      | zero => exact hh.1
      | succ j => exact ih j (by simpa using hj) hh.2
  cases n with
  | mk nm ats tx ks =>
    unfold All at h
    exact hl ks i hi h.2

def RoomRel (w : World) (n : Xm.N) (d r : Nat) (q i : Value) (wr : World) : Prop :=
  ∃ k c : Nat, k ≤ n.kids.length ∧ i = .int .i64 (k : Int) ∧ q = .int .i64 (c : Int) ∧ c ≤ r ∧ Xm.fewL (n.kids.take k) d r = some c ∧ Below w.heap.size w wr
theorem few_le {n : Xm.N} {d r q : Nat} (h : Xm.few n d r = some q) : q ≤ r := by have := Xm.few_size n d r q h; omega

set_option maxHeartbeats 2000000 in
theorem room_any (M : Nat) : ∀ (n : Xm.N), Xm.size n ≤ M → ∀ (d r : Nat) (v : Value) (w : World), Tr w w.heap.size n v → All (Lim 9223372036854775807) n → d ≤ 1000000 → r ≤ 1000000 →
    Calls Tryd.prog 28 #[v, .int .i64 (d : Int), .int .i64 (r : Int)] w fun e w' => e = .returned (.int .i64 (leftI (Xm.few n d r))) ∧ Below w.heap.size w w' := by
  induction M with
  | zero =>
    intro n hM
    exfalso
    cases n with
    | mk nm ats tx ks => rw [Xm.size] at hM; omega
  | succ M ih =>
    intro n hM d r v w ht hL hd hr
    obtain ⟨A, ca, K, ck, hv, _, hkids⟩ := ht.form
    subst hv
    unfold nV
    obtain ⟨m, hm⟩ : ∃ m, n.kids.length = m := ⟨_, rfl⟩
    have hm63 : m ≤ 9223372036854775807 := by have := hL.here.2.1; omega
    rw [hm]
    obtain ⟨na, hna⟩ : ∃ m, n.attrs.length = m := ⟨_, rfl⟩
    rw [hna]
    have HM := Lib.hid hm
    clear hm hna
    by_cases hz : d = 0 ∨ r = 0
    · have hF : Xm.few n d r = none := by rw [few_eq, if_pos hz]
      rw [hF]
      rcases hz with rfl | rfl
      · go_enter Tryd.func28, Tryd.ntmps28
        go_wp2_with fail
        go_ret
        exact ⟨rfl, (Below.refl _ _).alloc (Nat.le_refl _) _⟩
      · by_cases hd0 : d = 0
        · subst hd0
          go_enter Tryd.func28, Tryd.ntmps28
          go_wp2_with fail
          go_ret
          exact ⟨rfl, (Below.refl _ _).alloc (Nat.le_refl _) _⟩
        · have d1 : ((d : Int) == 0) = false := by simpa using hd0
          go_enter Tryd.func28, Tryd.ntmps28
          go_wp2_with fail
          go_ret
          exact ⟨rfl, (Below.refl _ _).alloc (Nat.le_refl _) _⟩
    · have hF : Xm.few n d r = Xm.fewL n.kids (d - 1) (r - 1) := by rw [few_eq, if_neg hz]
      rw [hF]
      have d1 : ((d : Int) == 0) = false := by simpa using (by omega : ¬ d = 0)
      have d2 : ((r : Int) == 0) = false := by simpa using (by omega : ¬ r = 0)
      obtain ⟨r', hr'⟩ : ∃ r', r' = r - 1 := ⟨_, rfl⟩
      obtain ⟨d', hd'⟩ : ∃ d', d' = d - 1 := ⟨_, rfl⟩
      have r1 : (r : Int) - 1 = (r' : Int) := by omega
      have r2 : (d : Int) - 1 = (d' : Int) := by omega
      have hr6 : r' ≤ r := by omega
      have hd6' : d' ≤ 1000000 := by omega
      rw [← hr', ← hd']
      clear hF hz hr' hd'
      go_enter Tryd.func28, Tryd.ntmps28
      go_wp2_with fail
      have hb0 : Below w.heap.size w (w.alloc (.cells #[.string (S n.name), .slice A na ca, .string (S n.text), .slice K m ck] 26)) := (Below.refl _ _).alloc (Nat.le_refl _) _
      go_loopw [2, 20] (fun q i wr => RoomRel w n d' r' q i wr) (fun _ i _ => m - (intOf i).toNat)
      case atStart => exact ⟨0, r', Nat.zero_le _, rfl, rfl, by omega, by rw [List.take_zero]; rfl, hb0⟩
      case round =>
        obtain ⟨k, c, hk, rfl, rfl, hc, hf, hbr⟩ := hrel
        have hml := HM.out
        clear hb0
        by_cases hlt : k < m
        · have hkl : k < n.kids.length := by omega
          obtain ⟨b, off, rfl, hbl, htl⟩ := hkids (by omega)
          obtain ⟨A', ca', K', ck', e0, e1, e2, e3, htk⟩ := TrL.get n.kids 0 k hkl htl
          rw [Nat.zero_add] at e0 e1 e2 e3
          have hcell : ∀ j, wr.cell? ⟨b, j, none⟩ = w.cell? ⟨b, j, none⟩ := fun j => hbr.cell (p := ⟨b, j, none⟩) hbl
          have c0 := (hcell _).trans e0
          have c1 := (hcell _).trans e1
          have c2 := (hcell _).trans e2
          have c3 := (hcell _).trans e3
          have HT := Lib.hid htk
          have hsz := size_kid hkl
          have HSZ : Hid (Xm.size n.kids[k] ≤ M) := Lib.hid (by omega)
          have HLK := Lib.hid (hL.kid hkl)
          have HSN := Lib.hid (show Xm.fewL (n.kids.take (k + 1)) d' r' = Xm.few n.kids[k] d' c by
            rw [List.take_succ_eq_append_getElem hkl, fewL_snoc]
            rw [hf]
            rfl)
          obtain ⟨x, hx⟩ : ∃ x, x = n.kids[k] := ⟨_, rfl⟩
          rw [← hx] at HT HSZ HLK HSN c0 c1 c2 c3
          clear hx e0 e1 e2 e3 htk htl hcell hsz hf hml hkids
          have hk0 : (0 : Int) ≤ (k : Int) := by omega
          have hkI : (k : Int) < (m : Int) := by omega
          obtain ⟨nx, hnx⟩ : ∃ y, y = x.name := ⟨_, rfl⟩
          obtain ⟨ax, hax⟩ : ∃ y, y = x.attrs.length := ⟨_, rfl⟩
          obtain ⟨tx, htx⟩ : ∃ y, y = x.text := ⟨_, rfl⟩
          obtain ⟨kx, hkx⟩ : ∃ y, y = x.kids.length := ⟨_, rfl⟩
          rw [← hnx, ← hax, ← htx, ← hkx] at HT
          rw [← hnx] at c0
          rw [← hax] at c1
          rw [← htx] at c2
          rw [← hkx] at c3
          clear hnx hax htx hkx
          go_wp2_with fail
          have hb1 : Below w.heap.size w (wr.alloc (.cells #[.string (S nx), .slice A' ax ca', .string (S tx), .slice K' kx ck'] 26)) := hbr.alloc hbr.size _
          have ht1 := Tr.moreB hb1.size x _ (Tr.keepB hb1 (Nat.le_refl _) x _ HT.out)
          have hc6 : c ≤ 1000000 := by omega
          have hd6 : d' ≤ 1000000 := by omega
          cases hres : Xm.few x d' c with
          | none =>
            have hih := ih x HSZ.out d' c _ _ ht1 HLK.out hd6 hc6
            rw [hres] at hih
            refine hih.mono ?_
            rintro e w2 ⟨rfl, hb2⟩
            have HE : Hid (leftI (Xm.fewL n.kids d' r') = -1) := Lib.hid (by
              have h1 := HSN.out
              rw [hres] at h1
              rw [few_none_of h1]
              rfl)
            have hb3 := hb1.trans (hb2.mono hb1.size)
            clear hih hres
            unfold leftI
            go_wp2_with fail
            go_ret
            exact ⟨by rw [HE.out]; rfl, hb3⟩
          | some c' =>
            have hih := ih x HSZ.out d' c _ _ ht1 HLK.out hd6 hc6
            rw [hres] at hih
            have hc' := few_le hres
            refine hih.mono ?_
            rintro e w2 ⟨rfl, hb2⟩
            have hb3 := hb1.trans (hb2.mono hb1.size)
            have HSN2 : Hid (Xm.fewL (n.kids.take (k + 1)) d' r' = some c') := Lib.hid (by rw [← hres]; exact HSN.out)
            have hc0 : (0 : Int) ≤ (c' : Int) := by omega
            clear hih hres hb2 hb1 ht1
            unfold leftI
            go_wp2_with fail
            go_roundw
            case rel => exact ⟨k + 1, c', by have := HM.out; omega, by go_num, rfl, by omega, HSN2.out, hb3⟩
            case measure => simp [intOf]; omega
        · have HE : Hid (leftI (Xm.fewL n.kids d' r') = (c : Int)) := Lib.hid (by
            rw [List.take_of_length_le (by omega)] at hf
            rw [hf]
            rfl)
          clear hf hml
          go_wp2_with fail
          go_ret
          exact ⟨by rw [HE.out]; rfl, hbr⟩
end Go.Proofs.YtpleaopefngafaaDoor
