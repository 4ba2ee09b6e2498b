/- What the statement on what stays as it is answers: true. No condition. -/
import Derived.Test.YtoaadallbpelbaaDkE
namespace Go.Proofs.Ytoaadallbpelbaa
set_option maxRecDepth 8000
open Go.RowKit

namespace Dk
theorem crash_none (d : D) : d.crash [] = ⟨d.n, d.kept, [], [], -1⟩ := by
  unfold D.crash
  rw [layCut_end [] d.st 0 d.kept (by simp)]
end Dk
theorem own_cap {w : World} {base : Nat} {e : TypeId} {size n c : Nat} {A : Option Addr} {xs : List Value} (h : w.ownsRow base e size (.slice A n c) n xs) : n ≤ c ∧ c ≤ 9223372036854775807 := by
  obtain ⟨_, cp, e, h1, h2, _, _⟩ := own_form h
  injection e with _ _ e
  rw [← e] at h1 h2
  exact ⟨h1, by unfold maxLen at h2; omega⟩
theorem below_drewN {B : Nat} {a w : World} (h : Below B a w) (n : Nat) : Below B a (w.drewN n) := ⟨h.os, h.tape, h.output, h.size, h.block⟩
theorem crash_nil_sd {base : Nat} {w : World} {P : Nat} {d : Dk.D} (h : SD base w P d) (hb : base ≤ w.heap.size) (hst : d.st.length ≤ 1048576) :
    Calls Try.prog 30 #[.pointer (some ⟨P, 0, none⟩), .slice none 0 0] w (NoSD base w P ⟨d.n, d.kept, [], [], -1⟩) := by
  have := crash_sd h hb hst none 0 [] (by simp) (fun h => absurd h (by simp))
  rw [Dk.crash_none] at this
  exact this

set_option maxHeartbeats 1600000 in
theorem stays_out (w : World) (bl i : Int) (hi64 : I64 i) (Al B' C : Option Addr) (cl cb cc : Nat) (l : List Dk.O) (b cuts : List UInt8) (hO : OpsIn w w.heap.size Al l) (hll : l.length ≤ 9223372036854775807) (hB : BInB w w.heap.size B' b) (lb : b.length ≤ 9223372036854775807) (hC : BInB w w.heap.size C cuts) (lc : cuts.length ≤ 9223372036854775807) (h : Dk.fewB l = false ∨ 40 < bl ∨ 32 < b.length ∨ 100 < cuts.length) :
    Calls Try.prog 6 #[.int .i64 bl, .slice Al l.length cl, .int .i64 i, .slice B' b.length cb, .slice C cuts.length cc] w (AwakePost w) := by
  cases hf : Dk.fewB l with
  | false =>
    go_enter Try.func6, Try.ntmps6
    go_wp2_with fail
    refine (awake_any w).mono ?_
    rintro e w1 ⟨rfl, hb1⟩
    have hFew := few_any w1 w.heap.size Al cl l (hO.keep hb1) hll
    rw [hf] at hFew
    go_wp2_with fail
    refine hFew.mono ?_
    rintro e w' ⟨rfl, rfl⟩
    clear hFew
    go_wp2_with fail
    go_ret
    exact ⟨rfl, hb1⟩
  | true =>
    rw [hf] at h
    by_cases hb : 40 < bl
    · clear h
      go_enter Try.func6, Try.ntmps6
      go_wp2_with fail
      refine (awake_any w).mono ?_
      rintro e w1 ⟨rfl, hb1⟩
      have hFew := few_any w1 w.heap.size Al cl l (hO.keep hb1) hll
      rw [hf] at hFew
      go_wp2_with fail
      refine hFew.mono ?_
      rintro e w' ⟨rfl, rfl⟩
      clear hFew
      go_wp2_with fail
      go_ret
      exact ⟨rfl, hb1⟩
    · by_cases hl : (32 : Int) < (b.length : Int)
      · clear h
        go_enter Try.func6, Try.ntmps6
        go_wp2_with fail
        refine (awake_any w).mono ?_
        rintro e w1 ⟨rfl, hb1⟩
        have hFew := few_any w1 w.heap.size Al cl l (hO.keep hb1) hll
        rw [hf] at hFew
        go_wp2_with fail
        refine hFew.mono ?_
        rintro e w' ⟨rfl, rfl⟩
        clear hFew
        go_wp2_with fail
        go_ret
        exact ⟨rfl, hb1⟩
      · have hl2 : (100 : Int) < (cuts.length : Int) := by
          rcases h with h | h | h | h
          · cases h
          · exact absurd h hb
          · exact absurd h (by omega)
          · omega
        clear h
        go_enter Try.func6, Try.ntmps6
        go_wp2_with fail
        refine (awake_any w).mono ?_
        rintro e w1 ⟨rfl, hb1⟩
        have hFew := few_any w1 w.heap.size Al cl l (hO.keep hb1) hll
        rw [hf] at hFew
        go_wp2_with fail
        refine hFew.mono ?_
        rintro e w' ⟨rfl, rfl⟩
        clear hFew
        go_wp2_with fail
        go_ret
        exact ⟨rfl, hb1⟩

set_option maxHeartbeats 3200000 in
theorem stays_bad (w : World) (bl i : Int) (hi64 : I64 i) (Al B' C : Option Addr) (cl cb cc : Nat) (l : List Dk.O) (b cuts : List UInt8) (hO : OpsIn w w.heap.size Al l) (hll : l.length ≤ 9223372036854775807) (hB : BInB w w.heap.size B' b) (lb : b.length ≤ 9223372036854775807) (hC : BInB w w.heap.size C cuts) (lc : cuts.length ≤ 9223372036854775807) (hf : Dk.fewB l = true) (h40 : ¬ 40 < bl) (h32 : ¬ 32 < b.length) (h100 : ¬ 100 < cuts.length) (hbad : i < 0 ∨ ((Dk.run (Dk.new bl) l).n : Int) ≤ i) :
    Calls Try.prog 6 #[.int .i64 bl, .slice Al l.length cl, .int .i64 i, .slice B' b.length cb, .slice C cuts.length cc] w (AwakePost w) := by
  have hl : ¬ (32 : Int) < (b.length : Int) := by omega
  have hl2 : ¬ (100 : Int) < (cuts.length : Int) := by omega
  go_enter Try.func6, Try.ntmps6
  go_wp2_with fail
  refine (awake_any w).mono ?_
  rintro e w1 ⟨rfl, hb1⟩
  have hFew := few_any w1 w.heap.size Al cl l (hO.keep hb1) hll
  rw [hf] at hFew
  go_wp2_with fail
  refine hFew.mono ?_
  rintro e w' ⟨rfl, rfl⟩
  clear hFew
  go_wp2_with fail
  have hBeh := behind_any w1 w.heap.size bl Al cl l (hO.keep hb1) hb1.size hf
  obtain ⟨d, hd⟩ : ∃ d, d = Dk.run (Dk.new bl) l := ⟨_, rfl⟩
  have hst : d.st.length ≤ 40 := by rw [hd]; exact behind_st bl l hf
  rw [← hd] at hBeh
  refine hBeh.mono ?_
  rintro e w2 ⟨P, rfl, hsd0, hb2⟩
  have HB2 := Lib.hid (hb1.trans (hb2.mono hb1.size))
  have hsd := hsd0.base hb1.size
  rw [← hd] at hbad
  clear hsd0 hBeh hb1 hb2 hd hO
  clear hf
  go_wp2_with fail
  have hCr := crash_nil_sd hsd HB2.out.size (by omega)
  refine hCr.mono ?_
  rintro e w3 ⟨rfl, hsd3, hb3⟩
  have HB3 := Lib.hid (HB2.out.trans hb3)
  clear hCr hb3 hsd
  go_wp2_with fail
  have hBy := bytes_sd hsd3
  obtain ⟨kp, hkp⟩ : ∃ kp, kp = d.kept := ⟨_, rfl⟩
  obtain ⟨N, hN⟩ : ∃ N, N = d.n := ⟨_, rfl⟩
  dsimp only at hBy
  rw [← hkp] at hBy hsd3
  rw [← hN] at hsd3 hbad
  have hN512 : N ≤ 512 := hsd3.ok.n
  obtain ⟨L, hL⟩ : ∃ L, L = 32 * N := ⟨_, rfl⟩
  have HKL := Lib.hid (show kp.length = L by rw [hL]; exact hsd3.ok.kept)
  have HLL := Lib.hid hL
  clear hkp hN hL
  refine hBy.mono ?_
  rintro e w4 ⟨⟨A4, c4, rfl, hown4⟩, hb4⟩
  rw [HKL.out]
  obtain ⟨hse4, _⟩ := hsd3.se.add hb4 (blkOf A4) (byrow_new hown4)
  rw [List.append_nil] at hse4
  have HB4 := Lib.hid (HB3.out.trans (hb4.mono HB3.out.size))
  have HOWN4 := Lib.hid hown4
  clear hBy hb4 hsd3 hown4
  go_wp2_with fail
  have hW := write_se hse4 HB4.out.size (by simp) i B' cb b lb (hB.keep HB4.out)
  obtain ⟨q1, q2⟩ := Dk.bad_write (d := ⟨N, kp, [], [], -1⟩) i b hbad
  rw [q1, q2] at hW
  clear q1 q2
  refine hW.mono ?_
  rintro e w5 ⟨rfl, hse5, hb5, _⟩
  have HB5 := Lib.hid (HB4.out.trans hb5)
  clear hW hb5 hse4
  go_wp2_with fail
  have hR : Calls Try.prog 22 #[.pointer (some ⟨P, 0, none⟩), .int .i64 i] w5 fun e w' => e = .returned (.slice none 0 0) ∧ w5 = w' := by
    obtain ⟨a, rfl, h1, _, _⟩ := hse5.sd
    exact read_none w5 a _ i h1 hbad
  refine hR.mono ?_
  rintro e w' ⟨rfl, rfl⟩
  have hLn := len_sd hse5.sd
  dsimp only at hLn
  clear hR hse5
  by_cases h0 : i < 0
  · have h1 : decide (i < 0) = true := by simpa using h0
    clear hbad
    go_wp2_with fail
    go_ret
    exact ⟨rfl, HB5.out⟩
  · have h1 : decide (i < 0) = false := by simpa using h0
    have h2 : (N : Int) ≤ i := by omega
    have h3 : decide ((N : Int) ≤ i) = true := by simpa using h2
    clear hbad
    go_wp2_with (refine hLn.mono ?_; rintro e w' ⟨rfl, rfl⟩)
    go_ret
    exact ⟨rfl, HB5.out⟩

end Go.Proofs.Ytoaadallbpelbaa
