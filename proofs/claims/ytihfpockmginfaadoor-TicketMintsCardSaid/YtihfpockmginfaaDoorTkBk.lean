/- The call TicketBack answers true, for any kind and draw, and any text. -/
import Derived.Test.YtihfpockmginfaaDoorTkG
namespace Go.Proofs.YtihfpockmginfaaDoor
set_option maxRecDepth 8000
open Go.RowKit

theorem u64_nat {x : Int} (h : (Lit.int .u64 x).wf = true) : ∃ n : Nat, x = (n : Int) ∧ n < 18446744073709551616 := by
  have e1 : IntKind.u64.min = 0 := by decide
  have e2 : IntKind.u64.max = 18446744073709551615 := by decide
  simp [Lit.wf] at h
  rw [e1, e2] at h
  exact ⟨x.toNat, by omega, by omega⟩
theorem preI_cases (kind : Int) : (preI kind = [] ∧ (kind < 1 ∨ 6 < kind)) ∨ ∃ k : Nat, kind = k ∧ 1 ≤ k ∧ k ≤ 6 ∧ preI kind = Tk.pre k := by
  unfold preI
  by_cases h0 : 0 ≤ kind
  · rw [if_pos h0]
    by_cases h : 1 ≤ kind.toNat ∧ kind.toNat ≤ 6
    · exact .inr ⟨kind.toNat, by omega, h.1, h.2, rfl⟩
    · refine .inl ⟨?_, by omega⟩
      by_cases h7 : 7 ≤ kind.toNat
      · exact pre_none _ h7
      · rw [show kind.toNat = 0 by omega]
        rfl
  · rw [if_neg h0]
    exact .inl ⟨rfl, by omega⟩
theorem nameV_good {k : Nat} (h1 : 1 ≤ k) (h6 : k ≤ 6) (n : Nat) : nameV (k : Int) n = .tuple #[.string (S (Tk.name k n)), .int .i64 0] := by
  unfold nameV
  rw [preI_nat, pre_empty h6, decide_eq_false (by omega), if_neg (by simp)]
  rfl
theorem nameV_bad {kind : Int} (h : preI kind = []) (n : Nat) : nameV kind n = .tuple #[.string ⟨#[]⟩, .int .i64 8] := by
  unfold nameV
  rw [h]
  rfl
theorem name_length {k : Nat} (h1 : 1 ≤ k) (h6 : k ≤ 6) (n : Nat) : 19 ≤ (Tk.name k n).length ∧ (Tk.name k n).length ≤ 23 := by
  have := (Tk.pre_facts k (by omega)).2 h1
  rw [Tk.name_len]
  omega

set_option maxHeartbeats 1600000 in
theorem ticketBack_any (kind x : Int) (hx : (Lit.int .u64 x).wf = true) (s : List UInt8) (w : World) (hE : EnvT w) :
    Calls Tryd.prog 4 #[.int .i64 kind, .int .u64 x, .string (S s)] w (AwakePost w) := by
  obtain ⟨n, rfl, hn⟩ := u64_nat hx
  have hA := awake_any w hE
  have hsz : ((S s).size : Int) = (s.length : Int) := rfl
  by_cases hlen : s.length ≤ 100
  · have hT := Tk.tell_cases s
    have hPs := fun w' h => parse_any s (by omega) w' h
    rcases preI_cases kind with ⟨hp, hk⟩ | ⟨k, rfl, h1, h6, _⟩
    · have hN := fun w' h => name_any kind n hn w' h
      rw [nameV_bad hp] at hN
      clear hp hT
      rcases hk with hk | hk
      · have hq : decide (kind < 1) = true := by simpa using hk
        go_enter Tryd.func4, Tryd.ntmps4
        go_wp2_with (first
          | (go_at_call 8; refine hA.mono ?_; rintro e w1 ⟨rfl, hb1⟩; have hE1 := hE.next hb1)
          | (go_at_call 9; refine (hN _ hE1).mono ?_; rintro e w2 ⟨rfl, hb2⟩))
        go_ret
        exact ⟨ret_bool (by simp), hb1.trans (hb2.mono hb1.size)⟩
      · have hq : decide (6 < kind) = true := by simpa using hk
        go_enter Tryd.func4, Tryd.ntmps4
        go_wp2_with (first
          | (go_at_call 8; refine hA.mono ?_; rintro e w1 ⟨rfl, hb1⟩; have hE1 := hE.next hb1)
          | (go_at_call 9; refine (hN _ hE1).mono ?_; rintro e w2 ⟨rfl, hb2⟩))
        go_ret
        exact ⟨ret_bool (by simp), hb1.trans (hb2.mono hb1.size)⟩
    · have hN := fun w' h => name_any (k : Int) n hn w' h
      rw [nameV_good h1 h6] at hN
      have hal := name_length h1 h6 n
      have hI : Tk.IsName (Tk.name k n) k n := ⟨h1, h6, hn, rfl⟩
      obtain ⟨a, ha⟩ : ∃ a, a = Tk.name k n := ⟨_, rfl⟩
      rw [← ha] at hN hal hI
      clear ha
      have hP := fun w' h => parse_any a (by omega) w' h
      rw [tellV_name hI] at hP
      have hIs : ∀ w', EnvT w' → ∀ q : Int, Calls Tryd.prog 15 #[.string (S a), .int .i64 q] w' fun e w'' => e = .returned (.bool (decide ((k : Int) = q))) ∧ Below w'.heap.size w' w'' := fun w' h q => by
        have := is_any a q (by omega) w' h
        rw [Tk.tell_name hI] at this
        dsimp only at this
        rw [Bool.true_and] at this
        exact this
      have d2 : decide ((k : Int) = (k : Int) + 1) = false := by simp; omega
      have hw1 : IntKind.i64.wrap ((k : Int) + 1) = (k : Int) + 1 := by rw [IntKind.wrap_i64]; omega
      clear hI hal
      rcases hT with ⟨l, m, hm, _⟩ | ⟨hno, _⟩
      · have hN2 := fun w' h => name_any (l : Int) m hm.lt w' h
        rw [nameV_good hm.lo hm.hi, ← hm.eq] at hN2
        rw [tellV_name hm] at hPs
        clear hm
        go_enter Tryd.func4, Tryd.ntmps4
        go_upto_region 7 with (first
          | (go_at_call 8; refine hA.mono ?_; rintro e w1 ⟨rfl, hz⟩; have hEz := hE.next hz)
          | (go_at_call 9; refine (hN _ hEz).mono ?_; rintro e w2 ⟨rfl, hq⟩; have hz := hz.trans (hq.mono hz.size); have hEz := hE.next hz))
        clear hN hA
        go_upto_region 10 with (first
          | (go_at_call 11; refine (hP _ hEz).mono ?_; rintro e w3 ⟨rfl, hq⟩; have hz := hz.trans (hq.mono hz.size); have hEz := hE.next hz)
          | (go_at_call 15; refine (hIs _ hEz _).mono ?_; rintro e w4 ⟨rfl, hq⟩; have hz := hz.trans (hq.mono hz.size); have hEz := hE.next hz))
        clear hP hIs
        go_wp2_with (first
          | (go_at_call 11; refine (hPs _ hEz).mono ?_; rintro e w6 ⟨rfl, hq⟩; have hz := hz.trans (hq.mono hz.size); have hEz := hE.next hz)
          | (go_at_call 9; refine (hN2 _ hEz).mono ?_; rintro e w7 ⟨rfl, hq⟩; have hz := hz.trans (hq.mono hz.size)))
        go_ret
        exact ⟨ret_bool (by simp), hz⟩
      · rw [tellV_none hno] at hPs
        clear hno
        go_enter Tryd.func4, Tryd.ntmps4
        go_upto_region 7 with (first
          | (go_at_call 8; refine hA.mono ?_; rintro e w1 ⟨rfl, hz⟩; have hEz := hE.next hz)
          | (go_at_call 9; refine (hN _ hEz).mono ?_; rintro e w2 ⟨rfl, hq⟩; have hz := hz.trans (hq.mono hz.size); have hEz := hE.next hz))
        clear hN hA
        go_upto_region 10 with (first
          | (go_at_call 11; refine (hP _ hEz).mono ?_; rintro e w3 ⟨rfl, hq⟩; have hz := hz.trans (hq.mono hz.size); have hEz := hE.next hz)
          | (go_at_call 15; refine (hIs _ hEz _).mono ?_; rintro e w4 ⟨rfl, hq⟩; have hz := hz.trans (hq.mono hz.size); have hEz := hE.next hz))
        clear hP hIs
        go_wp2_with (first
          | (go_at_call 11; refine (hPs _ hEz).mono ?_; rintro e w6 ⟨rfl, hq⟩; have hz := hz.trans (hq.mono hz.size); have hEz := hE.next hz)
          | fail)
        go_ret
        exact ⟨ret_bool (by simp), hz⟩
  · have hg : (100 : Int) < ((S s).size : Int) := by rw [hsz]; omega
    go_enter Tryd.func4, Tryd.ntmps4
    go_wp2_with (go_at_call 8; refine hA.mono ?_; rintro e w1 ⟨rfl, hb1⟩)
    go_ret
    exact ⟨rfl, hb1⟩
end Go.Proofs.YtihfpockmginfaaDoor
