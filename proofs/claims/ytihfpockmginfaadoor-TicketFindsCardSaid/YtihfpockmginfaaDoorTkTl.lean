/- The call TicketTells answers true, for any kind and draw, and any text. -/
import Derived.Test.YtihfpockmginfaaDoorTkJ
namespace Go.Proofs.YtihfpockmginfaaDoor
set_option maxRecDepth 8000
open Go.RowKit

theorem nameV_pair (kind : Int) (n : Nat) : ∃ (a : List UInt8) (e : Int), nameV kind n = .tuple #[.string (S a), .int .i64 e] := by
  unfold nameV
  split
  · exact ⟨[], 8, rfl⟩
  · exact ⟨_, 0, rfl⟩
theorem texts_two {w : World} {base base' : Nat} {v v' : Value} {l : List (List UInt8)} (h : SRow base w v l) (h' : SRow base' w v' l) (hl : l.length ≤ 1099511627776) :
    Calls Tryd.prog 16 #[v, v'] w fun e w' => e = .returned (.bool true) ∧ Below w.heap.size w w' := by
  obtain ⟨A, cap, rfl, hc⟩ := h.reads
  obtain ⟨A', cap', rfl, hc'⟩ := h'.reads
  refine (texts_any A A' cap cap' l l w hc hc' hl).mono fun e w' ⟨he, n, hw⟩ => ⟨?_, by rw [hw]; exact below_drewN (Below.refl _ _) n⟩
  rw [he]
  simp
set_option maxHeartbeats 3200000 in
theorem ticketTells_any (kind x : Int) (hx : (Lit.int .u64 x).wf = true) (s : List UInt8) (w : World) (hE : EnvT w) :
    Calls Tryd.prog 3 #[.int .i64 kind, .int .u64 x, .string (S s)] w (AwakePost w) := by
  obtain ⟨n, rfl, hn⟩ := u64_nat hx
  have hA := awake_any w hE
  have hsz : ((S s).size : Int) = (s.length : Int) := rfl
  by_cases hlen : s.length ≤ 300
  · have hN := fun w' h => name_any kind n hn w' h
    have hM := fun w' => refName_any kind n hn w'
    obtain ⟨a, e0, hv⟩ := nameV_pair kind n
    rw [hv] at hN hM
    have hP := fun w' h => parse_any s (by omega) w' h
    have hQ := fun w' => refParse_any s (by omega) w'
    unfold tellV at hP hQ
    have hI := fun w' h => is_any s kind (by omega) w' h
    have hPr := fun w' h => prefix_any kind w' h
    have hRp := fun w' => refPrefix_any kind w'
    have hF := fun w' h => find_any s (by omega) w' h
    have hG := fun w' => refFind_any s (by omega) w'
    have hfl : (Tk.find s).length ≤ 1099511627776 := Nat.le_trans (Tk.find_len s) (by omega)
    generalize Tk.find s = fs at hF hG hfl
    generalize (Tk.tell s).1 = tk at hP hQ hI
    generalize (Tk.tell s).2.1 = tn at hP hQ
    generalize (Tk.tell s).2.2 = tb at hP hQ hI
    generalize preI kind = p at hPr hRp
    clear hv hx
    obtain ⟨ib, hib⟩ : ∃ ib, ib = (tb && decide ((tk : Int) = kind)) := ⟨_, rfl⟩
    rw [← hib] at hI
    have hway : (tb = true ∧ (tk : Int) = kind ∧ ib = true) ∨ (tb = true ∧ ((tk : Int) == kind) = false ∧ ib = false) ∨ (tb = false ∧ ib = false) := by
      rw [hib]
      cases tb
      · exact .inr (.inr ⟨rfl, rfl⟩)
      · by_cases h : (tk : Int) = kind
        · exact .inl ⟨rfl, h, by simp [h]⟩
        · exact .inr (.inl ⟨rfl, by simpa using h, by simp [h]⟩)
    clear hib
    rcases hway with ⟨rfl, rfl, rfl⟩ | ⟨rfl, hne, rfl⟩ | ⟨rfl, rfl⟩
    all_goals
      go_enter Tryd.func3, Tryd.ntmps3
      go_upto_region 8 with (first
        | (go_at_call 8; refine hA.mono ?_; rintro e w1 ⟨rfl, hz⟩; have hEz := hE.next hz)
        | (go_at_call 9; refine (hN _ hEz).mono ?_; rintro e w2 ⟨rfl, hq⟩; have hz := hz.trans (hq.mono hz.size); have hEz := hE.next hz)
        | (go_at_call 10; refine (hM _).mono ?_; rintro e w' ⟨rfl, rfl⟩)
        | (go_at_call 11; refine (hP _ hEz).mono ?_; rintro e w3 ⟨rfl, hq⟩; have hz := hz.trans (hq.mono hz.size); have hEz := hE.next hz)
        | (go_at_call 12; refine (hQ _).mono ?_; rintro e w' ⟨rfl, rfl⟩))
      clear hN hM hP hQ hA
      go_wp2_with (first
        | (go_at_call 13; refine (hPr _ hEz).mono ?_; rintro e w' ⟨rfl, rfl⟩)
        | (go_at_call 14; refine (hRp _).mono ?_; rintro e w' ⟨rfl, rfl⟩)
        | (go_at_call 15; refine (hI _ hEz).mono ?_; rintro e w4 ⟨rfl, hq⟩; have hz := hz.trans (hq.mono hz.size); have hEz := hE.next hz)
        | (go_at_call 17; refine (hF _ hEz).mono ?_; rintro e w5 ⟨v, rfl, hr, hq⟩; have hz := hz.trans (hq.mono hz.size))
        | (go_at_call 18; refine (hG _).mono ?_; rintro e w6 ⟨v', rfl, hr', hq⟩; have hr := own_below hr hq; have hz := hz.trans (hq.mono hz.size))
        | (go_at_call 16; refine (texts_two hr hr' hfl).mono ?_; rintro e w7 ⟨rfl, hq⟩; have hz := hz.trans (hq.mono hz.size)))
      go_ret
      exact ⟨ret_bool (by simp), hz⟩
  · have hg : (300 : Int) < ((S s).size : Int) := by rw [hsz]; omega
    go_enter Tryd.func3, Tryd.ntmps3
    go_wp2_with (go_at_call 8; refine hA.mono ?_; rintro e w1 ⟨rfl, hb1⟩)
    go_ret
    exact ⟨rfl, hb1⟩
end Go.Proofs.YtihfpockmginfaaDoor
