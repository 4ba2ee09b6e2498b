/- What package ticket's Parse, Is and Find answer, for any text of at most 2^30 bytes. -/
import Derived.Test.YtfeaonbeklmfgaaGreatDoorTkD
namespace Go.Proofs.YtfeaonbeklmfgaaGreatDoor
set_option maxRecDepth 8000
open Go.RowKit

namespace Tk
/-- What is told of a text: the kind and the draw of which it is the name, and whether it is one. -/
def tell (s : Bytes) : Nat × Nat × Bool := if headName s = some s then (ending (Pct.cutAt 45 s).1, read (Pct.cutAt 45 s).2.1, true) else (0, 0, false)
theorem cut_name {s : Bytes} {k n : Nat} (h : IsName s k n) : Pct.cutAt 45 s = (pre k, num n, true) := by
  rw [h.eq]
  exact cutAt_dash _ _ (pre_dash k)
theorem tell_name {s : Bytes} {k n : Nat} (h : IsName s k n) : tell s = (k, n, true) := by
  have h1 := headName_of (u := s) (m := s.length) (k := k) (n := n) (by rw [List.take_length]; exact h)
  unfold tell
  rw [if_pos (by rw [h1.1, h.eq]), cut_name h, (ending_pre k (by have := h.hi; omega) h.lo).1, read_num h.lt]
theorem tell_none {s : Bytes} (h : ∀ k n, ¬ IsName s k n) : tell s = (0, 0, false) := by
  unfold tell
  rw [if_neg]
  intro e
  obtain ⟨k, n, hn, _⟩ := headName_is e
  exact h k n hn
theorem tell_cases (s : Bytes) : (∃ k n, IsName s k n ∧ tell s = (k, n, true)) ∨ ((∀ k n, ¬ IsName s k n) ∧ tell s = (0, 0, false)) := by
  by_cases h : ∃ k n, IsName s k n
  · obtain ⟨k, n, h⟩ := h
    exact .inl ⟨k, n, h, tell_name h⟩
  · have h' : ∀ k n, ¬ IsName s k n := fun k n hn => h ⟨k, n, hn⟩
    exact .inr ⟨h', tell_none h'⟩
theorem tell_lt (s : Bytes) : (tell s).2.1 < 18446744073709551616 ∧ (tell s).1 ≤ 6 := by
  rcases tell_cases s with ⟨k, n, h, e⟩ | ⟨_, e⟩
  · rw [e]; exact ⟨h.lt, h.hi⟩
  · rw [e]; exact ⟨by decide, by decide⟩
/-- Whether a prefix and what stands behind its dash are a name. -/
theorem tell_piece (k : Nat) (b : Bytes) : (tell (pre k ++ 45 :: b.take 16)).2.2 = (decide (k ≠ 0 ∧ k ≤ 6) && hexes b) := by
  rcases tell_cases (pre k ++ 45 :: b.take 16) with ⟨l, n, h, e⟩ | ⟨h, e⟩
  · rw [e]
    have h1 := cut_name h
    rw [cutAt_dash _ _ (pre_dash k)] at h1
    simp only [Prod.mk.injEq, and_true] at h1
    have hk : k = l := by
      rcases Nat.lt_or_ge k 7 with hk | hk
      · exact (pre_inj_all l (by have := h.hi; omega) k hk h.lo h1.1.symm).symm
      · exfalso
        have h2 := (pre_facts l (by have := h.hi; omega)).2 h.lo
        have h3 : pre k = [] := by
          unfold pre
          split <;> first | omega | rfl
        rw [← h1.1, h3] at h2
        simp at h2
    have := h.lo
    have := h.hi
    rw [(hexes_iff b).2 ⟨n, h.lt, h1.2⟩]
    simp
    omega
  · rw [e]
    by_cases hk : k ≠ 0 ∧ k ≤ 6
    · have hx : hexes b = false := by
        cases hb : hexes b with
        | false => rfl
        | true =>
          obtain ⟨n, hn, e2⟩ := (hexes_iff b).1 hb
          exact absurd ⟨by omega, hk.2, hn, by rw [e2]; rfl⟩ (h k n)
      rw [hx]
      simp
    · rw [decide_eq_false hk]
      rfl
theorem find_len : ∀ s : Bytes, (find s).length ≤ s.length
  | [] => by simp [find]
  | c :: r => by
    have := find_len r
    rw [find, List.length_append, List.length_cons]
    cases headName (c :: r) <;> simp <;> omega
end Tk

def tellV (s : List UInt8) : Value := .tuple #[.int .i64 ((Tk.tell s).1 : Int), .int .u64 ((Tk.tell s).2.1 : Int), .bool (Tk.tell s).2.2]
theorem tellV_none {s : List UInt8} (h : ∀ k n, ¬ Tk.IsName s k n) : tellV s = .tuple #[.int .i64 0, .int .u64 0, .bool false] := by
  unfold tellV
  rw [Tk.tell_none h]
  rfl
theorem tellV_name {s : List UInt8} {k n : Nat} (h : Tk.IsName s k n) : tellV s = .tuple #[.int .i64 (k : Int), .int .u64 (n : Int), .bool true] := by
  unfold tellV
  rw [Tk.tell_name h]
theorem num_good (n : Nat) : Good (Tk.num n) := ⟨Tk.num_len n, Tk.num_hx n⟩
theorem preI_nat (k : Nat) : preI (k : Int) = Tk.pre k := by unfold preI; rw [if_pos (by omega)]; rfl
theorem pre_empty {k : Nat} (h : k ≤ 6) : (Tk.pre k).isEmpty = decide (k = 0) := by
  have : k = 0 ∨ k = 1 ∨ k = 2 ∨ k = 3 ∨ k = 4 ∨ k = 5 ∨ k = 6 := by omega
  rcases this with rfl | rfl | rfl | rfl | rfl | rfl | rfl <;> rfl

set_option maxHeartbeats 800000 in
theorem parse_any (s : List UInt8) (hl : s.length ≤ 1073741824) (w : World) (hE : EnvT w) :
    Calls Tryz.prog 88 #[.string (S s)] w fun e w' => e = .returned (tellV s) ∧ Below w.heap.size w w' := by
  obtain ⟨⟨a, b, f⟩, hc⟩ : ∃ q, q = Pct.cutAt 45 s := ⟨_, rfl⟩
  have hC := strCut_to s 45 a b f w (by omega) hc.symm
  have hal := cutAt_len 45 s
  rw [← hc] at hal
  simp only at hal
  have hnm : Hid (∀ k n, Tk.IsName s k n → a = Tk.pre k ∧ b = Tk.num n) := Lib.hid fun k n h => by
    have := Tk.cut_name h
    rw [← hc] at this
    simp only [Prod.mk.injEq] at this
    exact ⟨this.1, this.2.1⟩
  have hea := Lib.hid (rfl : Tk.ending a = Tk.ending a)
  have hA := fun w' h => ending_any a (by omega) w' h
  obtain ⟨k, hk⟩ : ∃ k, k = Tk.ending a := ⟨_, rfl⟩
  rw [← hk] at hA
  have HK := Lib.hid hk
  have hk6 : k ≤ 6 := by rw [hk]; exact Tk.ending_le a
  clear hk hc hea
  go_enter Tryz.func88, Tryz.ntmps88
  go_upto_region 4 with (first
    | (go_at_call 96; refine hC.mono ?_; rintro e w1 ⟨rfl, hb1⟩; have hE1 := hE.next hb1)
    | (go_at_call 97; refine (hA _ hE1).mono ?_; rintro e w' ⟨rfl, rfl⟩)
    | (go_at_call 98; refine (parseUint_any b (by omega) _ hE1.errs).mono ?_; rintro e w2 ⟨⟨n, hn, rfl, hg⟩ | ⟨x, t, v, rfl, hg⟩, hb2⟩))
  · have hb3 := hb1.trans (hb2.mono hb1.size)
    have hE3 := hE.next hb3
    have hN := name_any (k : Int) n hn w2 hE3
    have HG := Lib.hid hg
    clear hg hE1 hE
    unfold nameV at hN
    rw [preI_nat, pre_empty hk6] at hN
    by_cases h0 : k = 0
    · rw [decide_eq_true h0, if_pos rfl] at hN
      have hno := Lib.hid (tellV_none (s := s) fun l m h => by
        have h1 := hnm.out l m h
        have h2 := HK.out
        rw [h1.1, (Tk.ending_pre l (by have := h.hi; omega) h.lo).1] at h2
        have := h.lo
        omega)
      clear h0
      go_wp2_with (go_at_call 99; refine hN.mono ?_; rintro e w4 ⟨rfl, hb4⟩)
      go_ret3
      rw [hno.out]
      exact ⟨rfl, hb3.trans (hb4.mono hb3.size)⟩
    · rw [decide_eq_false h0, if_neg (by simp)] at hN
      by_cases hy : Tk.pre k ++ 45 :: Tk.num n = s
      · have hyes := Lib.hid (tellV_name (s := s) (k := k) (n := n) ⟨by omega, hk6, hn, hy.symm⟩)
        rw [hy] at hN
        have hs : (!((S s).toList == (S s).toList)) = false := by simp
        clear h0 hy
        go_wp2_with (go_at_call 99; refine hN.mono ?_; rintro e w4 ⟨rfl, hb4⟩)
        go_ret3
        rw [hyes.out]
        exact ⟨rfl, hb3.trans (hb4.mono hb3.size)⟩
      · have hno := Lib.hid (tellV_none (s := s) fun l m h => by
          have h1 := hnm.out l m h
          have h2 := HK.out
          rw [h1.1, (Tk.ending_pre l (by have := h.hi; omega) h.lo).1] at h2
          have h3 := HG.out (by rw [h1.2]; exact num_good m)
          rw [h1.2, Tk.read_num h.lt] at h3
          apply hy
          rw [h2, h3]
          exact h.eq.symm)
        generalize Tk.pre k ++ 45 :: Tk.num n = y at hN hy
        have hs : (!((S y).toList == (S s).toList)) = true := by rw [S_list, S_list]; simp [hy]
        clear h0 hy
        go_wp2_with (go_at_call 99; refine hN.mono ?_; rintro e w4 ⟨rfl, hb4⟩)
        go_ret3
        rw [hno.out]
        exact ⟨rfl, hb3.trans (hb4.mono hb3.size)⟩
  · have hno := Lib.hid (tellV_none (s := s) fun l m h => hg (by rw [(hnm.out l m h).2]; exact num_good m))
    go_wp2
    go_ret3
    rw [hno.out]
    exact ⟨rfl, hb1.trans (hb2.mono hb1.size)⟩

set_option maxHeartbeats 400000 in
theorem is_any (s : List UInt8) (kind : Int) (hl : s.length ≤ 1073741824) (w : World) (hE : EnvT w) :
    Calls Tryz.prog 71 #[.string (S s), .int .i64 kind] w fun e w' => e = .returned (.bool ((Tk.tell s).2.2 && decide (((Tk.tell s).1 : Int) = kind))) ∧ Below w.heap.size w w' := by
  have hP := parse_any s hl w hE
  unfold tellV at hP
  generalize (Tk.tell s).1 = k at hP ⊢
  generalize (Tk.tell s).2.1 = n at hP
  generalize (Tk.tell s).2.2 = b at hP ⊢
  go_enter Tryz.func71, Tryz.ntmps71
  go_wp2_with (go_at_call 88; refine hP.mono ?_; rintro e w' ⟨rfl, hb⟩)
  all_goals
    go_ret
    exact ⟨ret_bool (by by_cases hh : (k : Int) = kind <;> simp_all), hb⟩
end Go.Proofs.YtfeaonbeklmfgaaGreatDoor
