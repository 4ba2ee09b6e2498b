/- What the document's Line answers, for any slice of at most 50 pairs of at most 1000 bytes. -/
import Derived.Test.YtpdilhnbbokipaaDoorCg
namespace Go.Proofs.YtpdilhnbbokipaaDoor
set_option maxRecDepth 8000
open Go.RowKit

set_option maxHeartbeats 1600000 in
theorem refLine_any (A : Option Addr) (cap : Nat) (l : List Pct.PairL) (w : World) (hl : PCells w w.heap.size A l) (hall : l.all short1 = true) (h50 : l.length ≤ 50) :
    Calls Tryd.prog 15 #[.slice A l.length cap] w (Told w (.returned (.string (S (Ck.line l))))) := by
  have HALL := Lib.hid hall
  clear hall
  go_enter Tryd.func15, Tryd.ntmps15
  go_wp2
  go_loopw [3, 4] (fun v i wr => ∃ k : Nat, k ≤ l.length ∧ i = .int .i64 k ∧ v = .string (S (Ck.line (l.take k))) ∧ ∃ n, wr = w.drewN n) (fun _ i _ => l.length - (intOf i).toNat)
  case atStart => exact ⟨0, Nat.zero_le _, rfl, rfl, 0, rfl⟩
  case round =>
    obtain ⟨k, hk, rfl, rfl, n0, rfl⟩ := hrel
    have HTL := Lib.hid (show (Ck.line (l.take k)).length ≤ 2003 * k by
      have h1 := line_len (l.take k) (by
        rw [List.all_eq_true]
        intro x hx
        exact List.all_eq_true.1 HALL.out x (List.mem_of_mem_take hx))
      have h2 : (l.take k).length ≤ k := List.length_take_le _ _
      omega)
    obtain ⟨acc, hacc⟩ : ∃ acc, acc = Ck.line (l.take k) := ⟨_, rfl⟩
    rw [← hacc]
    have hal : acc.length ≤ 100200 := by rw [hacc]; have := HTL.out; omega
    have HACC := Lib.hid hacc
    clear hacc HTL
    by_cases hlt : k < l.length
    · obtain ⟨ab, off, rfl, hbb, hc⟩ := hl (by omega)
      obtain ⟨c0', c1'⟩ := hc k hlt
      clear hc
      obtain ⟨n, hn⟩ : ∃ n, n = l[k].1 := ⟨_, rfl⟩
      obtain ⟨v, hv⟩ : ∃ v, v = l[k].2 := ⟨_, rfl⟩
      have hf1 : short1 l[k] = true := List.all_eq_true.1 HALL.out _ (List.getElem_mem hlt)
      have hn60 : n.length ≤ 1000 := by unfold short1 at hf1; simp at hf1; rw [hn]; exact hf1.1
      have hv60 : v.length ≤ 1000 := by unfold short1 at hf1; simp at hf1; rw [hv]; exact hf1.2
      rw [← hn] at c0'
      rw [← hv] at c1'
      have m0 : (0 : Int) ≤ (k : Int) := by omega
      have m1 : (k : Int) < (l.length : Int) := by omega
      have HNV := Lib.hid (show l[k] = (n, v) by rw [hn, hv])
      clear hn hv hf1 hl
      by_cases h0 : k = 0
      · have HN := Lib.hid (show Ck.line (l.take (k + 1)) = acc ++ n ++ [61] ++ v by
          rw [List.take_succ_eq_append_getElem hlt, HNV.out, HACC.out, h0]
          simp [Ck.line, Ck.one])
        have a1 := fun w' : World => run_add_S w' acc n (by omega)
        have hl1 : (acc ++ n).length ≤ 101400 := by simp; omega
        have HN1 := Lib.hid (rfl : acc ++ n ++ [61] ++ v = acc ++ n ++ [61] ++ v)
        obtain ⟨y1, hy1⟩ : ∃ y1, y1 = acc ++ n := ⟨_, rfl⟩
        rw [← hy1] at a1 hl1 HN
        clear hy1 HN1
        have a2 := fun w' : World => (show (Op.stringOp .add (S y1) ⟨#[61]⟩).run Tryd.prog w' = .ok (.string (S (y1 ++ [61]))) w' from run_add_S w' y1 [61] (by simp; omega))
        have hl2 : (y1 ++ [61]).length ≤ 101500 := by simp; omega
        obtain ⟨y2, hy2⟩ : ∃ y2, y2 = y1 ++ [61] := ⟨_, rfl⟩
        rw [← hy2] at a2 hl2 HN
        clear hy2
        have a3 := fun w' : World => run_add_S w' y2 v (by omega)
        obtain ⟨y3, hy3⟩ : ∃ y3, y3 = y2 ++ v := ⟨_, rfl⟩
        rw [← hy3] at a3 HN
        clear hy3
        have hk0 : (k : Int) ≤ 0 := by omega
        clear h0
        go_wp2
        go_quiet (fail)
        go_wp2
        go_roundw
        case rel => exact ⟨k + 1, by omega, by go_num, by rw [HN.out], _, rfl⟩
        case measure => simp [intOf]; omega
      · have HN := Lib.hid (show Ck.line (l.take (k + 1)) = acc ++ [59, 32] ++ n ++ [61] ++ v by
          rw [List.take_succ_eq_append_getElem hlt, HNV.out, Ck.line_snoc, if_neg (by
            intro h
            have := congrArg List.length h
            rw [List.length_take, Nat.min_eq_left (by omega)] at this
            exact h0 (by simpa using this)), HACC.out]
          simp [Ck.one])
        have a0 := fun w' : World => (show (Op.stringOp .add (S acc) ⟨#[59, 32]⟩).run Tryd.prog w' = .ok (.string (S (acc ++ [59, 32]))) w' from run_add_S w' acc [59, 32] (by simp; omega))
        have hab : (acc ++ [59, 32]).length ≤ 100300 := by simp; omega
        obtain ⟨bcc, hbcc⟩ : ∃ bcc, bcc = acc ++ [59, 32] := ⟨_, rfl⟩
        rw [← hbcc] at a0 HN hab
        clear hbcc
        have a1 := fun w' : World => run_add_S w' bcc n (by omega)
        have hl1 : (bcc ++ n).length ≤ 101400 := by simp; omega
        have HN1 := Lib.hid (rfl : bcc ++ n ++ [61] ++ v = bcc ++ n ++ [61] ++ v)
        obtain ⟨y1, hy1⟩ : ∃ y1, y1 = bcc ++ n := ⟨_, rfl⟩
        rw [← hy1] at a1 hl1 HN
        clear hy1 HN1
        have a2 := fun w' : World => (show (Op.stringOp .add (S y1) ⟨#[61]⟩).run Tryd.prog w' = .ok (.string (S (y1 ++ [61]))) w' from run_add_S w' y1 [61] (by simp; omega))
        have hl2 : (y1 ++ [61]).length ≤ 101500 := by simp; omega
        obtain ⟨y2, hy2⟩ : ∃ y2, y2 = y1 ++ [61] := ⟨_, rfl⟩
        rw [← hy2] at a2 hl2 HN
        clear hy2
        have a3 := fun w' : World => run_add_S w' y2 v (by omega)
        obtain ⟨y3, hy3⟩ : ∃ y3, y3 = y2 ++ v := ⟨_, rfl⟩
        rw [← hy3] at a3 HN
        clear hy3
        have hk0 : (0 : Int) < (k : Int) := by omega
        clear h0
        go_wp2
        go_quiet (fail)
        go_wp2
        go_roundw
        case rel => exact ⟨k + 1, by omega, by go_num, by rw [HN.out], _, rfl⟩
        case measure => simp [intOf]; omega
    · have HW := Lib.hid (show acc = Ck.line l by rw [HACC.out, List.take_of_length_le (by omega)])
      go_wp2
      go_ret
      exact ⟨by rw [HW.out]; rfl, below_drewN (Below.refl _ _) _⟩
end Go.Proofs.YtpdilhnbbokipaaDoor
