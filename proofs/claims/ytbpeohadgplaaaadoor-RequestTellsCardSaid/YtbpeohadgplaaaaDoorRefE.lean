/- What the document's own Write answers, for any slice of at most 50 pairs of at most 60 bytes. -/
import Derived.Test.YtbpeohadgplaaaaDoorRefD
import Derived.Test.YtbpeohadgplaaaaDoorFew
namespace Go.Proofs.YtbpeohadgplaaaaDoor
set_option maxRecDepth 8000
open Go.RowKit

theorem encQ (z : List UInt8) (W : World) (hz : z.length ≤ 1000) : Calls Tryd.prog 70 #[.string (S z)] W fun e w' => e = .returned (.string (S (Pct.enc z))) ∧ ∃ m, w' = W.drewN m :=
  refEncode_any (S z) W (by show z.length ≤ _; omega)

set_option maxHeartbeats 800000 in
theorem refWrite_any (A : Option Addr) (cap : Nat) (l : List Pct.PairL) (w : World) (hl : PCells w w.heap.size A l) (hf : fewB l = true) :
    Calls Tryd.prog 36 #[.slice A l.length cap] w (Told w (.returned (.string (S (Pct.write l))))) := by
  obtain ⟨hall, h50⟩ : l.all few1 = true ∧ l.length ≤ 50 := by
    unfold fewB at hf
    simpa using hf
  clear hf
  have HALL := Lib.hid hall
  clear hall
  go_enter Tryd.func36, Tryd.ntmps36
  go_wp2
  go_loopw [3, 4] (fun v i wr => ∃ (k : Nat) (acc : List UInt8), k ≤ l.length ∧ i = .int .i64 k ∧ v = .string (S acc) ∧ acc = Pct.write (l.take k) ∧ Below w.heap.size w wr) (fun _ i _ => l.length - (intOf i).toNat)
  case atStart => exact ⟨0, [], Nat.zero_le _, rfl, rfl, rfl, Below.refl _ _⟩
  case round =>
    obtain ⟨k, acc, hk, rfl, rfl, hacc, hb⟩ := hrel
    have hal : acc.length ≤ 18100 := by
      have h1 := write_len60 (l.take k) (fun x hx => by
        have := List.all_eq_true.1 HALL.out x (List.mem_of_mem_take hx)
        unfold few1 at this
        simpa using this)
      have h2 : (l.take k).length ≤ k := List.length_take_le _ _
      rw [hacc]
      omega
    have HACC := Lib.hid hacc
    clear hacc
    by_cases hlt : k < l.length
    · obtain ⟨ab, off, rfl, hbb, hc⟩ := hl (by omega)
      obtain ⟨c0', c1'⟩ := hc k hlt
      clear hc
      obtain ⟨n, hn⟩ : ∃ n, n = l[k].1 := ⟨_, rfl⟩
      obtain ⟨v, hv⟩ : ∃ v, v = l[k].2 := ⟨_, rfl⟩
      have hf1 : few1 l[k] = true := List.all_eq_true.1 HALL.out _ (List.getElem_mem hlt)
      have hn60 : n.length ≤ 60 := by unfold few1 at hf1; simp at hf1; rw [hn]; exact hf1.1
      have hv60 : v.length ≤ 60 := by unfold few1 at hf1; simp at hf1; rw [hv]; exact hf1.2
      rw [← hn] at c0'
      rw [← hv] at c1'
      have HNV := Lib.hid (show l[k] = (n, v) by rw [hn, hv])
      have c0 : wr.cell? ⟨ab, off + k * 2, none⟩ = some (.string (S n)) := (hb.cell (p := ⟨ab, off + k * 2, none⟩) hbb).trans c0'
      have c1 : wr.cell? ⟨ab, off + k * 2 + 1, none⟩ = some (.string (S v)) := (hb.cell (p := ⟨ab, off + k * 2 + 1, none⟩) hbb).trans c1'
      have i0 : (0 : Int) ≤ (k : Int) := by omega
      have i1 : (k : Int) < (l.length : Int) := by omega
      have hen : (Pct.enc n).length ≤ 180 := by have := (Pct.enc_len n).2; omega
      have hev : (Pct.enc v).length ≤ 180 := by have := (Pct.enc_len v).2; omega
      clear hn hv hf1 c0' c1' hl
      by_cases h0 : k = 0
      · have HN := Lib.hid (show Pct.write (l.take (k + 1)) = acc ++ Pct.enc n ++ [61] ++ Pct.enc v by
          rw [List.take_succ_eq_append_getElem hlt, HNV.out, HACC.out, h0]
          simp [Pct.write, Pct.wr1])
        have hk0 : (k : Int) ≤ 0 := by omega
        clear h0
        have a1 := fun w' : World => run_add_S w' acc (Pct.enc n) (by omega)
        have a2 : ∀ w' : World, (Op.stringOp .add (S (acc ++ Pct.enc n)) ⟨#[61]⟩).run Tryd.prog w' = .ok (.string (S (acc ++ Pct.enc n ++ [61]))) w' := fun w' => run_add_S w' (acc ++ Pct.enc n) [61] (by simp; omega)
        have a3 := fun w' : World => run_add_S w' (acc ++ Pct.enc n ++ [61]) (Pct.enc v) (by simp; omega)
        obtain ⟨x1, hx1⟩ : ∃ x1, x1 = acc ++ Pct.enc n := ⟨_, rfl⟩
        rw [← hx1] at a1 a2 a3 HN
        obtain ⟨x2, hx2⟩ : ∃ x2, x2 = x1 ++ [61] := ⟨_, rfl⟩
        rw [← hx2] at a2 a3 HN
        obtain ⟨x3, hx3⟩ : ∃ x3, x3 = x2 ++ Pct.enc v := ⟨_, rfl⟩
        rw [← hx3] at a3 HN
        clear hx1 hx2 hx3
        go_wp2
        go_quiet ((go_at_call 70; exact Calls.quiet_of (encQ _ _ (by omega))))
        go_wp2
        go_roundw
        case rel => exact ⟨k + 1, x3, by omega, by go_num, rfl, HN.out.symm, below_drewN hb _⟩
        case measure => simp [intOf]; omega
      · have HN := Lib.hid (show Pct.write (l.take (k + 1)) = acc ++ [38] ++ Pct.enc n ++ [61] ++ Pct.enc v by
          rw [List.take_succ_eq_append_getElem hlt, HNV.out, write_snoc _ _ (by
            intro h
            have := congrArg List.length h
            rw [List.length_take, Nat.min_eq_left (by omega)] at this
            exact h0 (by simpa using this)), HACC.out]
          simp [Pct.wr1])
        have hk0 : (0 : Int) < (k : Int) := by omega
        clear h0
        have a0 : ∀ w' : World, (Op.stringOp .add (S acc) ⟨#[38]⟩).run Tryd.prog w' = .ok (.string (S (acc ++ [38]))) w' := fun w' => run_add_S w' acc [38] (by simp; omega)
        obtain ⟨x0, hx0⟩ : ∃ x0, x0 = acc ++ [38] := ⟨_, rfl⟩
        have hxl : x0.length ≤ 18200 := by rw [hx0]; simp; omega
        rw [← hx0] at a0 HN
        have a1 := fun w' : World => run_add_S w' x0 (Pct.enc n) (by omega)
        have a2 : ∀ w' : World, (Op.stringOp .add (S (x0 ++ Pct.enc n)) ⟨#[61]⟩).run Tryd.prog w' = .ok (.string (S (x0 ++ Pct.enc n ++ [61]))) w' := fun w' => run_add_S w' (x0 ++ Pct.enc n) [61] (by simp; omega)
        have a3 := fun w' : World => run_add_S w' (x0 ++ Pct.enc n ++ [61]) (Pct.enc v) (by simp; omega)
        obtain ⟨x1, hx1⟩ : ∃ x1, x1 = x0 ++ Pct.enc n := ⟨_, rfl⟩
        rw [← hx1] at a1 a2 a3 HN
        obtain ⟨x2, hx2⟩ : ∃ x2, x2 = x1 ++ [61] := ⟨_, rfl⟩
        rw [← hx2] at a2 a3 HN
        obtain ⟨x3, hx3⟩ : ∃ x3, x3 = x2 ++ Pct.enc v := ⟨_, rfl⟩
        rw [← hx3] at a3 HN
        clear hx0 hx1 hx2 hx3
        go_wp2
        go_quiet ((go_at_call 70; exact Calls.quiet_of (encQ _ _ (by omega))))
        go_wp2
        go_roundw
        case rel => exact ⟨k + 1, x3, by omega, by go_num, rfl, HN.out.symm, below_drewN hb _⟩
        case measure => simp [intOf]; omega
    · go_wp2
      go_ret
      refine ⟨?_, hb⟩
      have e1 := HACC.out
      rw [List.take_of_length_le (by omega)] at e1
      rw [← e1]
      rfl
end Go.Proofs.YtbpeohadgplaaaaDoor
