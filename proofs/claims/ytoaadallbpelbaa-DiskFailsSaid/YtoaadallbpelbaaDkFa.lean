/- What the statement on calls that fail answers: true. No condition. -/
import Derived.Test.YtoaadallbpelbaaDkE
namespace Go.Proofs.Ytoaadallbpelbaa
set_option maxRecDepth 8000
open Go.RowKit

set_option maxHeartbeats 1600000 in
theorem fails_out (w : World) (bl i : Int) (hi64 : I64 i) (Al B' : Option Addr) (cl cb : Nat) (l : List Dk.O) (b : List UInt8) (hO : OpsIn w w.heap.size Al l) (hll : l.length ≤ 9223372036854775807) (hB : BInB w w.heap.size B' b) (lb : b.length ≤ 9223372036854775807) (h : Dk.fewB l = false ∨ 40 < bl ∨ 32 < b.length) :
    Calls Try.prog 7 #[.int .i64 bl, .slice Al l.length cl, .int .i64 i, .slice B' b.length cb] w (AwakePost w) := by
  cases hf : Dk.fewB l with
  | false =>
    go_enter Try.func7, Try.ntmps7
    go_wp2_with fail
    refine (awake_any w).mono ?_
    rintro e w1 ⟨rfl, hb1⟩
    have hFew := few_any w1 w.heap.size Al cl l (hO.keep hb1) hll
    rw [hf] at hFew
    go_wp2_with fail
    refine hFew.mono ?_
    rintro e w' ⟨rfl, rfl⟩
    clear hFew
    go_wp2_with fail
    go_ret
    exact ⟨rfl, hb1⟩
  | true =>
    rw [hf] at h
    by_cases hb : 40 < bl
    · clear h
      go_enter Try.func7, Try.ntmps7
      go_wp2_with fail
      refine (awake_any w).mono ?_
      rintro e w1 ⟨rfl, hb1⟩
      have hFew := few_any w1 w.heap.size Al cl l (hO.keep hb1) hll
      rw [hf] at hFew
      go_wp2_with fail
      refine hFew.mono ?_
      rintro e w' ⟨rfl, rfl⟩
      clear hFew
      go_wp2_with fail
      go_ret
      exact ⟨rfl, hb1⟩
    · have hl : (32 : Int) < (b.length : Int) := by
        rcases h with h | h | h
        · cases h
        · exact absurd h hb
        · omega
      clear h
      go_enter Try.func7, Try.ntmps7
      go_wp2_with fail
      refine (awake_any w).mono ?_
      rintro e w1 ⟨rfl, hb1⟩
      have hFew := few_any w1 w.heap.size Al cl l (hO.keep hb1) hll
      rw [hf] at hFew
      go_wp2_with fail
      refine hFew.mono ?_
      rintro e w' ⟨rfl, rfl⟩
      clear hFew
      go_wp2_with fail
      go_ret
      exact ⟨rfl, hb1⟩

set_option maxHeartbeats 3200000 in
theorem fails_in (w : World) (bl i : Int) (hi64 : I64 i) (Al B' : Option Addr) (cl cb : Nat) (l : List Dk.O) (b : List UInt8) (hO : OpsIn w w.heap.size Al l) (hll : l.length ≤ 9223372036854775807) (hB : BInB w w.heap.size B' b) (lb : b.length ≤ 9223372036854775807) (hf : Dk.fewB l = true) (h40 : ¬ 40 < bl) (h32 : ¬ 32 < b.length) :
    Calls Try.prog 7 #[.int .i64 bl, .slice Al l.length cl, .int .i64 i, .slice B' b.length cb] w (AwakePost w) := by
  have hl : ¬ (32 : Int) < (b.length : Int) := by omega
  go_enter Try.func7, Try.ntmps7
  go_wp2_with fail
  refine (awake_any w).mono ?_
  rintro e w1 ⟨rfl, hb1⟩
  have hFew := few_any w1 w.heap.size Al cl l (hO.keep hb1) hll
  rw [hf] at hFew
  go_wp2_with fail
  refine hFew.mono ?_
  rintro e w' ⟨rfl, rfl⟩
  clear hFew
  go_wp2_with fail
  have hBeh := behind_any w1 w.heap.size bl Al cl l (hO.keep hb1) hb1.size hf
  obtain ⟨d, hd⟩ : ∃ d, d = Dk.run (Dk.new bl) l := ⟨_, rfl⟩
  have hst : d.st.length ≤ 40 := by rw [hd]; exact behind_st bl l hf
  rw [← hd] at hBeh
  refine hBeh.mono ?_
  rintro e w2 ⟨P, rfl, hsd0, hb2⟩
  have HB2 := Lib.hid (hb1.trans (hb2.mono hb1.size))
  have hsd := hsd0.base hb1.size
  clear hsd0 hBeh hb1 hb2 hd hO
  clear hf
  go_wp2_with fail
  have hOn := on_sd hsd
  by_cases hl0 : d.left = 0
  · have hon : d.on = false := by unfold Dk.D.on; simp [hl0]
    rw [hon] at hOn
    have q1 := Dk.off_sync hl0
    have q2 := Dk.off_drop hl0
    have q3 := Dk.off_write hl0 i b (by omega)
    clear hl0
    refine hOn.mono ?_
    rintro e w' ⟨rfl, rfl⟩
    go_wp2_with fail
    have hS := sync_sd hsd HB2.out.size (by omega)
    rw [q1.1, q1.2] at hS
    refine hS.mono ?_
    rintro e w3 ⟨rfl, hsd3, hb3⟩
    have HB3 := Lib.hid (HB2.out.trans hb3)
    clear hS hb3 hsd hOn
    go_wp2_with fail
    have hD := drop_sd hsd3 HB3.out.size
    rw [q2] at hD
    refine hD.mono ?_
    rintro e w4 ⟨rfl, hsd4, hb4⟩
    have HB4 := Lib.hid (HB3.out.trans hb4)
    clear hD hb4 hsd3
    have hW := write_sd hsd4 HB4.out.size (by omega) i B' cb b lb (hB.keep HB4.out)
    rw [q3.2] at hW
    obtain ⟨x, hx⟩ : ∃ x, x = d.writeE i b := ⟨_, rfl⟩
    rw [← hx] at hW q3
    have x1 : (x != 0) = true := by simpa using q3.1
    have HON := Lib.hid hon
    clear q1 q2 q3 hx hB hon
    go_wp2_with fail
    refine hW.mono ?_
    rintro e w5 ⟨rfl, hsd5, hb5⟩
    have hOn2 := on_sd hsd5
    rw [HON.out] at hOn2
    have HB5 := Lib.hid (HB4.out.trans hb5)
    clear hW hb5
    go_wp2_with (refine hOn2.mono ?_; rintro e w' ⟨rfl, rfl⟩)
    go_ret
    exact ⟨rfl, HB5.out⟩
  · have hon : d.on = true := by unfold Dk.D.on; simp [hl0]
    rw [hon] at hOn
    refine hOn.mono ?_
    rintro e w' ⟨rfl, rfl⟩
    have hSt := stop_sd hsd HB2.out.size (-1) (by constructor <;> omega)
    have hs1 : d.stop (-1) = { d with left := -1 } := by unfold Dk.D.stop; rw [if_neg hl0]
    rw [hs1] at hSt
    clear hs1 hl0 hon hOn
    go_wp2_with fail
    refine hSt.mono ?_
    rintro e w3 ⟨rfl, hsd3, hb3⟩
    have HB3 := Lib.hid (HB2.out.trans hb3)
    clear hSt hb3 hsd
    go_wp2_with fail
    have hBy := bytes_sd hsd3
    obtain ⟨kp, hkp⟩ : ∃ kp, kp = d.kept := ⟨_, rfl⟩
    have hkl : kp.length ≤ 1048576 := by rw [hkp, hsd3.ok.kept]; have := hsd3.ok.n; dsimp only at *; omega
    dsimp only at hBy
    rw [← hkp] at hBy
    refine hBy.mono ?_
    rintro e w4 ⟨⟨A4, c4, rfl, hown4⟩, hb4⟩
    obtain ⟨hse4, _⟩ := hsd3.se.add hb4 (blkOf A4) (byrow_new hown4)
    rw [List.append_nil] at hse4
    have HB4 := Lib.hid (HB3.out.trans (hb4.mono HB3.out.size))
    have HIN4 := Lib.hid (own_in hown4)
    clear hBy hb4 hsd3 hown4
    have hSg := staged_sd hse4.sd
    dsimp only at hSg
    obtain ⟨n, hn⟩ : ∃ n, n = d.st.length := ⟨_, rfl⟩
    rw [← hn] at hSg hst
    have HN := Lib.hid hn
    have HKP := Lib.hid hkp
    clear hn hkp
    go_wp2_with fail
    refine hSg.mono ?_
    rintro e w' ⟨rfl, rfl⟩
    clear hSg
    go_wp2_with fail
    have hb5 : Below w4.heap.size w4 (w4.alloc (.cells #[.bool true, .bool true, .bool false] 4)) := (Below.refl _ _).alloc (Nat.le_refl _) _
    obtain ⟨hse5, hx5⟩ := hse4.keep hb5
    have hFa := faults_se hse5 (Nat.le_trans HB4.out.size hb5.size) (some ⟨w4.heap.size, 0, none⟩) 3 [true, true, false] ⟨(fun h => by cases h), by simp, fun _ => ⟨w4.heap.size, 0, rfl, by simp, fun k hk => by
      rw [Nat.zero_add, cell_of_row _ w4.heap.size k _ _ _ (heap_alloc_new w4 _)]
      have hk3 : k < 3 := hk
      rcases k with _ | _ | _ | k
      · rfl
      · rfl
      · rfl
      · omega⟩⟩
    dsimp only at hFa
    have HB5 := Lib.hid (HB4.out.trans (hb5.mono HB4.out.size))
    have HIN5 := Lib.hid (HIN4.out.sameX hx5 hb5.size)
    clear hb5 hx5 hse4 hse5
    refine hFa.mono ?_
    rintro e w6 ⟨rfl, hse6, hb6, hx6⟩
    have HB6 := Lib.hid (HB5.out.trans hb6)
    have HIN6 := Lib.hid (HIN5.out.sameX hx6 hb6.size)
    clear hFa hb6 hx6
    have hLn := len_sd hse6.sd
    dsimp only at hLn
    obtain ⟨N, hN⟩ : ∃ N, N = d.n := ⟨_, rfl⟩
    rw [← hN] at hLn
    have HNN := Lib.hid hN
    have q1 := Dk.plan_sync (d := { d with plan := [true, true, false], left := -1 }) [true, false] rfl rfl
    by_cases hth : 0 ≤ i ∧ i < (N : Int)
    · obtain ⟨t1, t2⟩ := hth
      have q2 := Dk.plan_write (d := { d with plan := [true, false], left := -1 }) true [false] rfl rfl i b (by omega) ⟨t1, by rw [hN] at t2; exact t2⟩
      have q3 := Dk.plan_write (d := { d with plan := [false], left := -1 }) false [] rfl rfl i b (by omega) ⟨t1, by rw [hN] at t2; exact t2⟩
      rw [if_pos rfl, if_pos rfl] at q2
      rw [if_neg (by decide), if_neg (by decide)] at q3
      dsimp only at q1 q2 q3
      have Q2 := Lib.hid q2
      have Q3 := Lib.hid q3
      have Q1 := Lib.hid q1
      clear q1 q2 q3 hN
      go_wp2_with fail
      refine hLn.mono ?_
      rintro e w' ⟨rfl, rfl⟩
      clear hLn
      go_wp2_with fail
      have hS := sync_se hse6 HB6.out.size (by dsimp only; have := HN.out; omega)
      rw [Q1.out.1, Q1.out.2] at hS
      refine hS.mono ?_
      rintro e w7 ⟨rfl, hse7, hb7, hx7⟩
      have HB7 := Lib.hid (HB6.out.trans hb7)
      have HIN7 := Lib.hid (HIN6.out.sameX hx7 hb7.size)
      clear hS hb7 hx7 hse6
      go_wp2_with fail
      have hW := write_se hse7 HB7.out.size (by dsimp only; have := HN.out; omega) i B' cb b lb (hB.keep HB7.out)
      rw [Q2.out.1, Q2.out.2] at hW
      refine hW.mono ?_
      rintro e w8 ⟨rfl, hse8, hb8, hx8⟩
      have HB8 := Lib.hid (HB7.out.trans hb8)
      have HIN8 := Lib.hid (HIN7.out.sameX hx8 hb8.size)
      clear hW hb8 hx8 hse7
      have hSg := staged_sd hse8.sd
      dsimp only at hSg
      rw [← HN.out] at hSg
      have hBy := bytes_sd hse8.sd
      dsimp only at hBy
      rw [← HKP.out] at hBy
      have nn : ((n : Int) != (n : Int)) = false := by simp
      go_wp2_with (refine hSg.mono ?_; rintro e w' ⟨rfl, rfl⟩)
      refine hBy.mono ?_
      rintro e w9 ⟨⟨A9, c9, rfl, hown9⟩, hb9⟩
      obtain ⟨hse9, hx9⟩ := hse8.keep hb9
      have HB9 := Lib.hid (HB8.out.trans (hb9.mono HB8.out.size))
      have HIN9 := Lib.hid (HIN8.out.sameX hx9 hb9.size)
      have hSm := same_any w9 A9 A4 kp kp c9 c4 (own_in hown9) HIN9.out
      rw [decide_eq_true rfl] at hSm
      clear hBy hb9 hx9 hse8 hown9
      go_wp2_with fail
      refine hSm.mono ?_
      rintro e w' ⟨rfl, rfl⟩
      clear hSm hSg
      go_wp2_with fail
      have hW := write_se hse9 HB9.out.size (by dsimp only; have := HN.out; omega) i B' cb b lb (hB.keep HB9.out)
      rw [Q3.out.1, Q3.out.2] at hW
      refine hW.mono ?_
      rintro e w10 ⟨rfl, hse10, hb10, hx10⟩
      have HB10 := Lib.hid (HB9.out.trans hb10)
      have HIN10 := Lib.hid (HIN9.out.sameX hx10 hb10.size)
      clear hW hb10 hx10 hse9
      have hSg := staged_sd hse10.sd
      dsimp only at hSg
      rw [List.length_append, ← HN.out, List.length_singleton] at hSg
      have hBy := bytes_sd hse10.sd
      dsimp only at hBy
      rw [← HKP.out] at hBy
      have n1 : ((n + 1 : Nat) : Int) = (n : Int) + 1 := by omega
      rw [n1] at hSg
      have HBI := Lib.hid hB
      clear hB n1
      go_wp2_with (refine hSg.mono ?_; rintro e w' ⟨rfl, rfl⟩)
      refine hBy.mono ?_
      rintro e w11 ⟨⟨A11, c11, rfl, hown11⟩, hb11⟩
      obtain ⟨hse11, hx11⟩ := hse10.keep hb11
      have HB11 := Lib.hid (HB10.out.trans (hb11.mono HB10.out.size))
      have hSm := same_any w11 A11 A4 kp kp c11 c4 (own_in hown11) (HIN10.out.sameX hx11 hb11.size)
      rw [decide_eq_true rfl] at hSm
      clear hBy hb11 hx11 hse10 hown11
      go_wp2_with fail
      refine hSm.mono ?_
      rintro e w' ⟨rfl, rfl⟩
      go_wp2
      go_ret
      exact ⟨rfl, HB11.out⟩
    · have q2 := Dk.bad_write (d := { d with plan := [true, false], left := -1 }) i b (by show i < 0 ∨ (d.n : Int) ≤ i; rw [hN] at hth; omega)
      dsimp only at q1 q2
      have Q2 := Lib.hid q2
      have Q1 := Lib.hid q1
      clear q1 q2 hN
      by_cases h0 : 0 ≤ i
      · have h1 : ¬ i < (N : Int) := by omega
        have h2 : decide (i < (N : Int)) = false := by simpa using h1
        have h3 : decide (0 ≤ i) = true := by simpa using h0
        clear hth
        go_wp2_with fail
        refine hLn.mono ?_
        rintro e w' ⟨rfl, rfl⟩
        clear hLn
        go_wp2_with fail
        have hS := sync_se hse6 HB6.out.size (by dsimp only; have := HN.out; omega)
        rw [Q1.out.1, Q1.out.2] at hS
        refine hS.mono ?_
        rintro e w7 ⟨rfl, hse7, hb7, hx7⟩
        have HB7 := Lib.hid (HB6.out.trans hb7)
        have HIN7 := Lib.hid (HIN6.out.sameX hx7 hb7.size)
        clear hS hb7 hx7 hse6
        go_wp2_with fail
        have hW := write_se hse7 HB7.out.size (by dsimp only; have := HN.out; omega) i B' cb b lb (hB.keep HB7.out)
        rw [Q2.out.1, Q2.out.2] at hW
        refine hW.mono ?_
        rintro e w8 ⟨rfl, hse8, hb8, hx8⟩
        have HB8 := Lib.hid (HB7.out.trans hb8)
        have HIN8 := Lib.hid (HIN7.out.sameX hx8 hb8.size)
        clear hW hb8 hx8 hse7
        have hSg := staged_sd hse8.sd
        dsimp only at hSg
        rw [← HN.out] at hSg
        have hBy := bytes_sd hse8.sd
        dsimp only at hBy
        rw [← HKP.out] at hBy
        have nn : ((n : Int) != (n : Int)) = false := by simp
        go_wp2_with (refine hSg.mono ?_; rintro e w' ⟨rfl, rfl⟩)
        refine hBy.mono ?_
        rintro e w9 ⟨⟨A9, c9, rfl, hown9⟩, hb9⟩
        obtain ⟨hse9, hx9⟩ := hse8.keep hb9
        have HB9 := Lib.hid (HB8.out.trans (hb9.mono HB8.out.size))
        have hSm := same_any w9 A9 A4 kp kp c9 c4 (own_in hown9) (HIN8.out.sameX hx9 hb9.size)
        rw [decide_eq_true rfl] at hSm
        clear hBy hb9 hx9 hse8 hown9
        go_wp2_with fail
        refine hSm.mono ?_
        rintro e w' ⟨rfl, rfl⟩
        go_wp2
        go_ret
        exact ⟨rfl, HB9.out⟩
      · clear hth hLn
        go_wp2_with fail
        have hS := sync_se hse6 HB6.out.size (by dsimp only; have := HN.out; omega)
        rw [Q1.out.1, Q1.out.2] at hS
        refine hS.mono ?_
        rintro e w7 ⟨rfl, hse7, hb7, hx7⟩
        have HB7 := Lib.hid (HB6.out.trans hb7)
        have HIN7 := Lib.hid (HIN6.out.sameX hx7 hb7.size)
        clear hS hb7 hx7 hse6
        go_wp2_with fail
        have hW := write_se hse7 HB7.out.size (by dsimp only; have := HN.out; omega) i B' cb b lb (hB.keep HB7.out)
        rw [Q2.out.1, Q2.out.2] at hW
        refine hW.mono ?_
        rintro e w8 ⟨rfl, hse8, hb8, hx8⟩
        have HB8 := Lib.hid (HB7.out.trans hb8)
        have HIN8 := Lib.hid (HIN7.out.sameX hx8 hb8.size)
        clear hW hb8 hx8 hse7
        have hSg := staged_sd hse8.sd
        dsimp only at hSg
        rw [← HN.out] at hSg
        have hBy := bytes_sd hse8.sd
        dsimp only at hBy
        rw [← HKP.out] at hBy
        have nn : ((n : Int) != (n : Int)) = false := by simp
        go_wp2_with (refine hSg.mono ?_; rintro e w' ⟨rfl, rfl⟩)
        refine hBy.mono ?_
        rintro e w9 ⟨⟨A9, c9, rfl, hown9⟩, hb9⟩
        obtain ⟨hse9, hx9⟩ := hse8.keep hb9
        have HB9 := Lib.hid (HB8.out.trans (hb9.mono HB8.out.size))
        have hSm := same_any w9 A9 A4 kp kp c9 c4 (own_in hown9) (HIN8.out.sameX hx9 hb9.size)
        rw [decide_eq_true rfl] at hSm
        clear hBy hb9 hx9 hse8 hown9
        go_wp2_with fail
        refine hSm.mono ?_
        rintro e w' ⟨rfl, rfl⟩
        go_wp2
        go_ret
        exact ⟨rfl, HB9.out⟩

/-- THE STATEMENT's CALL, at any input. -/
theorem diskFails_any (w : World) (bl i : Int) (hi64 : I64 i) (Al B' : Option Addr) (cl cb : Nat) (l : List Dk.O) (b : List UInt8) (hO : OpsIn w w.heap.size Al l) (hll : l.length ≤ 9223372036854775807) (hB : BInB w w.heap.size B' b) (lb : b.length ≤ 9223372036854775807) :
    Calls Try.prog 7 #[.int .i64 bl, .slice Al l.length cl, .int .i64 i, .slice B' b.length cb] w (AwakePost w) := by
  by_cases h : Dk.fewB l = false ∨ 40 < bl ∨ 32 < b.length
  · exact fails_out w bl i hi64 Al B' cl cb l b hO hll hB lb h
  · refine fails_in w bl i hi64 Al B' cl cb l b hO hll hB lb ?_ (fun h' => h (.inr (.inl h'))) (fun h' => h (.inr (.inr h')))
    cases hf : Dk.fewB l with
    | true => rfl
    | false => exact absurd (.inl hf) h
end Go.Proofs.Ytoaadallbpelbaa
