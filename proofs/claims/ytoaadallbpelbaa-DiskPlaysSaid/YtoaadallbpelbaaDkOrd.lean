/- What the statement on the order of writes answers: true. No condition. -/
import Derived.Test.YtoaadallbpelbaaDkZ
import Derived.Test.YtoaadallbpelbaaDkQ
namespace Go.Proofs.Ytoaadallbpelbaa
set_option maxRecDepth 8000
open Go.RowKit

theorem read_sd {base : Nat} {w : World} {P : Nat} {d : Dk.D} (h : SD base w P d) (hst : d.st.length ≤ 1048576) (j : Nat) (hj : j < d.n) : Calls Try.prog 22 #[.pointer (some ⟨P, 0, none⟩), .int .i64 (j : Int)] w (ReadPost w (Dk.seen j (Dk.blk d.kept j) d.st)) := by
  obtain ⟨a, rfl, h1, h2, _⟩ := h
  exact read_any w a d j h1 h2 hj hst
theorem staged_sd {base : Nat} {w : World} {P : Nat} {d : Dk.D} (h : SD base w P d) : Calls Try.prog 20 #[.pointer (some ⟨P, 0, none⟩)] w fun e w' => e = .returned (.int .i64 d.st.length) ∧ w = w' := by
  obtain ⟨a, rfl, h1, _, _⟩ := h
  exact staged_any w a d h1
theorem made_sd {base : Nat} {w w' : World} {d : Dk.D} {e : Ending} (hb : base ≤ w.heap.size) (h : MadePost w d e w') : ∃ P, e = .returned (.pointer (some ⟨P, 0, none⟩)) ∧ SD base w' P d ∧ Below w.heap.size w w' := by
  obtain ⟨P, e1, ⟨a, h0, h1, h2, h3⟩, h4⟩ := h.sd
  exact ⟨P, e1, ⟨a, h0, h1, h2, fun x hx => Nat.le_trans hb (h3 x hx)⟩, h4⟩
theorem new_n (m : Nat) (h : m ≤ 512) : (Dk.new (m : Int)).n = m := by show (min (max (m : Int) 0) 512).toNat = m; omega
theorem wpList_append_zeros {w : World} {ops : Array Oper} {rest : List Oper} {o : Oper} {a : Act} {Q : Exit → Act → World → Prop} (hgd : o.guard = none) (s x : Operand)
    (ho : o.op = .call { callee := .builtin .append, args := #[s, x], argTypes := #[29, 3] })
    (base g n cap m : Nat) (xs : List Value) (hs : a.eval s = .slice (some ⟨g, 0, none⟩) n cap) (hx : a.eval x = .int .i64 (m : Int)) (hown : w.ownsRow base 5 1 (.slice (some ⟨g, 0, none⟩) n cap) n xs) (hnm : n + m ≤ 1048576) (hbase : base ≤ w.heap.size)
    (h : ∀ v' w', w'.ownsRow base 5 1 v' (n + m) (xs ++ List.replicate m (.int .u8 0)) → w.grownBy w' (some g) → wpList Try.prog ops Q rest (a.put o.dst v') w') : wpList Try.prog ops Q (o :: rest) a w := by
  refine wpList_plain hgd fun K hK => ?_
  obtain ⟨v', w', hr, h2, h3⟩ := run_append_zeros w o.type base g n cap m xs hown hnm hbase
  unfold Oper.wp execOp
  simp only [ho, resolve, invoke, builtin, Sem.run_bind, Sem.run_pure, Result.andThen_ok, List.map_toArray, List.map_cons, List.map_nil, hs, hx, hr]
  exact hK _ _ (h v' w' h2 h3)
theorem bcs_pad (l : List UInt8) : bcs l ++ List.replicate (32 - l.length) (.int .u8 0) = bcs (Dk.pad l) := by
  unfold Dk.pad bcs
  rw [List.map_append, List.map_replicate]
  rfl
theorem cB_in {w : World} {g : Nat} {l : List UInt8} {t : TypeId} (h : w.heap[g]? = some (.cells (cB l) t (0, 0))) : BIn w (some ⟨g, 0, none⟩) l := fun _ =>
  ⟨g, 0, rfl, lt_of_blk' h, fun k hk => by
    rw [Nat.zero_add, cell_of_row w g k _ _ _ h]
    simp [cB, bcs, hk]⟩
theorem own_in {w : World} {base : Nat} {A : Option Addr} {cap n : Nat} {l : List UInt8} (h : w.ownsRow base 5 1 (.slice A n cap) n (bcs l)) : BIn w A l := fun hn => by
  have e : n = l.length := by have := h.1; rw [bcs_len] at this; omega
  subst e
  obtain ⟨g, rfl, h1, _, h2⟩ := own_cell h hn
  exact ⟨g, 0, rfl, h1, fun k hk => by rw [Nat.zero_add]; exact h2 k hk⟩
theorem BIn.keep {w w' : World} {A : Option Addr} {l : List UInt8} (h : BIn w A l) (hb : Below w.heap.size w w') : BIn w' A l := fun hn => by
  obtain ⟨b, off, e, hlt, hc⟩ := h hn
  exact ⟨b, off, e, Nat.lt_of_lt_of_le hlt hb.size, fun k hk => (hb.cell (p := ⟨b, off + k, none⟩) hlt).trans (hc k hk)⟩

theorem own_some {w : World} {base : Nat} {e : TypeId} {size n : Nat} {v : Value} {xs : List Value} (h : w.ownsRow base e size v n xs) (hv : v.ownBlock ≠ none) : ∃ g cap, v = .slice (some ⟨g, 0, none⟩) n cap ∧ base ≤ g ∧ g < w.heap.size := by
  rcases h.2 with ⟨rfl, _⟩ | ⟨g, cap, cur, rfl, hb, hg, _⟩
  · exact absurd rfl hv
  · exact ⟨g, cap, rfl, hb, lt_of_blk' hg⟩
theorem own_keep {w w' : World} {base : Nat} {g cap n : Nat} {xs : List Value} (h : w.ownsRow base 5 1 (.slice (some ⟨g, 0, none⟩) n cap) n xs) (hb : Below w.heap.size w w') : w'.ownsRow base 5 1 (.slice (some ⟨g, 0, none⟩) n cap) n xs :=
  own_block h (fun b hb' => by
    obtain ⟨cur, hc⟩ := own_lt h b hb'
    exact hb.block b (lt_of_blk' hc))
/-- What the statement is asked of. -/
structure OrdIn (w : World) (bl : Int) (m : Nat) (A B' C : Option Addr) (a b c : List UInt8) : Prop where
  hbl : 0 ≤ bl ∧ bl < 256
  hm : bl % 41 = (m : Int)
  ha : BInB w w.heap.size A a
  hb : BInB w w.heap.size B' b
  hc : BInB w w.heap.size C c
  la : a.length ≤ 9223372036854775807
  lb : b.length ≤ 9223372036854775807
  lc : c.length ≤ 9223372036854775807

set_option maxHeartbeats 1600000 in
theorem order_long (w : World) (bl : Int) (m : Nat) (i k : Int) (A B' C : Option Addr) (a b c : List UInt8) (ca cb cc : Nat) (h : OrdIn w bl m A B' C a b c) (hl : 32 < a.length ∨ 32 < b.length ∨ 32 < c.length) :
    Calls Try.prog 8 #[.int .u8 bl, .int .i64 i, .int .i64 k, .slice A a.length ca, .slice B' b.length cb, .slice C c.length cc] w (AwakePost w) := by
  obtain ⟨⟨hbl0, hbl1⟩, hm, hA, hB, hC, hla, hlb, hlc⟩ := h
  have hm2 : bl.tmod 41 = (m : Int) := by rw [Int.tmod_eq_emod_of_nonneg hbl0]; exact hm
  have hm40 : m ≤ 40 := by omega
  have hmI : (0 : Int) ≤ (m : Int) := by omega
  have hAw := awake_any w
  by_cases ha : 32 < a.length
  · have haI : (32 : Int) < (a.length : Int) := by omega
    go_enter Try.func8, Try.ntmps8
    go_wp2_with fail
    refine hAw.mono ?_
    rintro e w1 ⟨rfl, hb1⟩
    go_wp2_with fail
    refine (new_any w1 (m : Int)).mono ?_
    intro e w2 hmade
    obtain ⟨P, rfl, hsd, hb2⟩ := made_sd hb1.size hmade
    clear hmade hAw
    have HB2 := Lib.hid (hb1.trans (hb2.mono hb1.size))
    clear hb1 hb2
    go_wp2_with fail
    go_ret
    exact ⟨rfl, HB2.out⟩
  · have haI : ¬ (32 : Int) < (a.length : Int) := by omega
    by_cases hb : 32 < b.length
    · have hbI : (32 : Int) < (b.length : Int) := by omega
      go_enter Try.func8, Try.ntmps8
      go_wp2_with fail
      refine hAw.mono ?_
      rintro e w1 ⟨rfl, hb1⟩
      go_wp2_with fail
      refine (new_any w1 (m : Int)).mono ?_
      intro e w2 hmade
      obtain ⟨P, rfl, hsd, hb2⟩ := made_sd hb1.size hmade
      clear hmade hAw
      have HB2 := Lib.hid (hb1.trans (hb2.mono hb1.size))
      clear hb1 hb2
      go_wp2_with fail
      go_ret
      exact ⟨rfl, HB2.out⟩
    · have hbI : ¬ (32 : Int) < (b.length : Int) := by omega
      have hcI : (32 : Int) < (c.length : Int) := by omega
      go_enter Try.func8, Try.ntmps8
      go_wp2_with fail
      refine hAw.mono ?_
      rintro e w1 ⟨rfl, hb1⟩
      go_wp2_with fail
      refine (new_any w1 (m : Int)).mono ?_
      intro e w2 hmade
      obtain ⟨P, rfl, hsd, hb2⟩ := made_sd hb1.size hmade
      clear hmade hAw
      have HB2 := Lib.hid (hb1.trans (hb2.mono hb1.size))
      clear hb1 hb2
      go_wp2_with fail
      go_ret
      exact ⟨rfl, HB2.out⟩

/-- The three writes. -/
structure W3 (d0 d1 d2 d3 : Dk.D) (i k : Int) (a b c : List UInt8) (e f g : Int) : Prop where
  s0 : d0.st.length = 0
  w1 : d0.write i a = d1
  w2 : d1.write k c = d2
  w3 : d2.write i b = d3
  e : d0.writeE i a = e
  f : d1.writeE k c = f
  g : d2.writeE i b = g
theorem W3.st {d0 d1 d2 d3 : Dk.D} {i k : Int} {a b c : List UInt8} {e f g : Int} (h : W3 d0 d1 d2 d3 i k a b c e f g) : d1.st.length ≤ 1 ∧ d2.st.length ≤ 2 ∧ d3.st.length ≤ 3 := by
  have hw : ∀ (d : Dk.D) (i : Int) (b : List UInt8), (d.write i b).st.length ≤ d.st.length + 1 := fun d i b => by
    have := Dk.ex_st d ⟨1, i, b, []⟩
    simpa [Dk.D.ex] using this
  have h1 := hw d0 i a
  have h2 := hw d1 k c
  have h3 := hw d2 i b
  rw [h.w1] at h1
  rw [h.w2] at h2
  rw [h.w3] at h3
  have := h.s0
  omega

set_option maxHeartbeats 1600000 in
theorem order_bad (w : World) (bl : Int) (m : Nat) (i k : Int) (A B' C : Option Addr) (a b c : List UInt8) (ca cb cc : Nat) (h : OrdIn w bl m A B' C a b c) (d1 d2 d3 : Dk.D) (e f g : Int) (hw : W3 (Dk.new (m : Int)) d1 d2 d3 i k a b c e f g) (hl : ¬ (32 < a.length ∨ 32 < b.length ∨ 32 < c.length)) (he : e ≠ 0 ∨ (e = 0 ∧ f ≠ 0)) (h3 : d3.st.length < 3) :
    Calls Try.prog 8 #[.int .u8 bl, .int .i64 i, .int .i64 k, .slice A a.length ca, .slice B' b.length cb, .slice C c.length cc] w (AwakePost w) := by
  obtain ⟨⟨hbl0, hbl1⟩, hm, hA, hB, hC, hla, hlb, hlc⟩ := h
  have hm2 : bl.tmod 41 = (m : Int) := by rw [Int.tmod_eq_emod_of_nonneg hbl0]; exact hm
  have hm40 : m ≤ 40 := by omega
  have hmI : (0 : Int) ≤ (m : Int) := by omega
  have hAw := awake_any w
  have haI : ¬ (32 : Int) < (a.length : Int) := by omega
  have hbI : ¬ (32 : Int) < (b.length : Int) := by omega
  have hcI : ¬ (32 : Int) < (c.length : Int) := by omega
  rcases he with he | ⟨he, hf⟩
  · have e1 : (e != 0) = true := by simpa using he
    have e2 : (e == 0) = false := by simpa using he
    go_enter Try.func8, Try.ntmps8
    go_wp2_with fail
    refine hAw.mono ?_
    rintro e w1 ⟨rfl, hb1⟩
    go_wp2_with fail
    refine (new_any w1 (m : Int)).mono ?_
    intro e w2 hmade
    obtain ⟨P, rfl, hsd, hb2⟩ := made_sd hb1.size hmade
    clear hmade hAw
    have HB2 := Lib.hid (hb1.trans (hb2.mono hb1.size))
    clear hb1 hb2
    go_wp2_with fail
    obtain ⟨d0, hd0⟩ : ∃ d0, d0 = Dk.new (m : Int) := ⟨_, rfl⟩
    rw [← hd0] at hw hsd
    clear hd0
    have hst := hw.st
    have hW1 := write_sd hsd HB2.out.size (by rw [hw.s0]; omega) i A ca a hla (hA.keep HB2.out)
    rw [hw.e, hw.w1] at hW1
    refine hW1.mono ?_
    rintro e w3 ⟨rfl, hsd3, hb3⟩
    have HB3 := Lib.hid (HB2.out.trans hb3)
    clear hb3 hW1 hsd
    go_wp2_with fail
    have hW2 := write_sd hsd3 HB3.out.size (by omega) k C cc c hlc (hC.keep HB3.out)
    rw [hw.f, hw.w2] at hW2
    refine hW2.mono ?_
    rintro e w4 ⟨rfl, hsd4, hb4⟩
    have HB4 := Lib.hid (HB3.out.trans hb4)
    clear hb4 hW2 hsd3
    go_wp2_with fail
    have hW3 := write_sd hsd4 HB4.out.size (by omega) i B' cb b hlb (hB.keep HB4.out)
    rw [hw.g, hw.w3] at hW3
    refine hW3.mono ?_
    rintro e w5 ⟨rfl, hsd5, hb5⟩
    have HB5 := Lib.hid (HB4.out.trans hb5)
    clear hb5 hW3 hsd4
    have hS := staged_sd hsd5
    have h3I : (d3.st.length : Int) < 3 := by omega
    clear he
    go_wp2_with (refine hS.mono ?_; rintro e w' ⟨rfl, rfl⟩)
    go_ret
    exact ⟨rfl, HB5.out⟩
  · have e1 : (f != 0) = true := by simpa using hf
    have e2 : (f == 0) = false := by simpa using hf
    subst he
    go_enter Try.func8, Try.ntmps8
    go_wp2_with fail
    refine hAw.mono ?_
    rintro e w1 ⟨rfl, hb1⟩
    go_wp2_with fail
    refine (new_any w1 (m : Int)).mono ?_
    intro e w2 hmade
    obtain ⟨P, rfl, hsd, hb2⟩ := made_sd hb1.size hmade
    clear hmade hAw
    have HB2 := Lib.hid (hb1.trans (hb2.mono hb1.size))
    clear hb1 hb2
    go_wp2_with fail
    obtain ⟨d0, hd0⟩ : ∃ d0, d0 = Dk.new (m : Int) := ⟨_, rfl⟩
    rw [← hd0] at hw hsd
    clear hd0
    have hst := hw.st
    have hW1 := write_sd hsd HB2.out.size (by rw [hw.s0]; omega) i A ca a hla (hA.keep HB2.out)
    rw [hw.e, hw.w1] at hW1
    refine hW1.mono ?_
    rintro e w3 ⟨rfl, hsd3, hb3⟩
    have HB3 := Lib.hid (HB2.out.trans hb3)
    clear hb3 hW1 hsd
    go_wp2_with fail
    have hW2 := write_sd hsd3 HB3.out.size (by omega) k C cc c hlc (hC.keep HB3.out)
    rw [hw.f, hw.w2] at hW2
    refine hW2.mono ?_
    rintro e w4 ⟨rfl, hsd4, hb4⟩
    have HB4 := Lib.hid (HB3.out.trans hb4)
    clear hb4 hW2 hsd3
    go_wp2_with fail
    have hW3 := write_sd hsd4 HB4.out.size (by omega) i B' cb b hlb (hB.keep HB4.out)
    rw [hw.g, hw.w3] at hW3
    refine hW3.mono ?_
    rintro e w5 ⟨rfl, hsd5, hb5⟩
    have HB5 := Lib.hid (HB4.out.trans hb5)
    clear hb5 hW3 hsd4
    have hS := staged_sd hsd5
    have h3I : (d3.st.length : Int) < 3 := by omega
    clear hf
    go_wp2_with (refine hS.mono ?_; rintro e w' ⟨rfl, rfl⟩)
    go_ret
    exact ⟨rfl, HB5.out⟩

set_option maxHeartbeats 3200000 in
theorem order_good (w : World) (bl : Int) (m : Nat) (i k : Nat) (A B' C : Option Addr) (a b c : List UInt8) (ca cb cc : Nat) (h : OrdIn w bl m A B' C a b c) (hl : ¬ (32 < a.length ∨ 32 < b.length ∨ 32 < c.length)) (d1 d2 d3 d4 : Dk.D) (hw : W3 (Dk.new (m : Int)) d1 d2 d3 (i : Int) (k : Int) a b c 0 0 0) (hs : d3.syncE = 0) (hs4 : d3.sync = d4) (ho : Dk.Ord m i k a b c d4) (hi : i < m) (hk : k < m) :
    Calls Try.prog 8 #[.int .u8 bl, .int .i64 (i : Int), .int .i64 (k : Int), .slice A a.length ca, .slice B' b.length cb, .slice C c.length cc] w (AwakePost w) := by
  obtain ⟨⟨hbl0, hbl1⟩, hm, hA, hB, hC, hla, hlb, hlc⟩ := h
  have hm2 : bl.tmod 41 = (m : Int) := by rw [Int.tmod_eq_emod_of_nonneg hbl0]; exact hm
  have hm40 : m ≤ 40 := by omega
  have hmI : (0 : Int) ≤ (m : Int) := by omega
  have hAw := awake_any w
  have haI : ¬ (32 : Int) < (a.length : Int) := by omega
  have hbI : ¬ (32 : Int) < (b.length : Int) := by omega
  have hcI : ¬ (32 : Int) < (c.length : Int) := by omega
  go_enter Try.func8, Try.ntmps8
  go_wp2_with fail
  refine hAw.mono ?_
  rintro e w1 ⟨rfl, hb1⟩
  go_wp2_with fail
  refine (new_any w1 (m : Int)).mono ?_
  intro e w2 hmade
  obtain ⟨P, rfl, hsd, hb2⟩ := made_sd hb1.size hmade
  clear hmade hAw
  have HB2 := Lib.hid (hb1.trans (hb2.mono hb1.size))
  clear hb1 hb2
  go_wp2_with fail
  obtain ⟨d0, hd0⟩ : ∃ d0, d0 = Dk.new (m : Int) := ⟨_, rfl⟩
  rw [← hd0] at hw hsd
  clear hd0
  have hst := hw.st
  have hW1 := write_sd hsd HB2.out.size (by rw [hw.s0]; omega) (i : Int) A ca a hla (hA.keep HB2.out)
  rw [hw.e, hw.w1] at hW1
  refine hW1.mono ?_
  rintro e w3 ⟨rfl, hsd3, hb3⟩
  have HB3 := Lib.hid (HB2.out.trans hb3)
  clear hb3 hW1 hsd
  go_wp2_with fail
  have hW2 := write_sd hsd3 HB3.out.size (by omega) (k : Int) C cc c hlc (hC.keep HB3.out)
  rw [hw.f, hw.w2] at hW2
  refine hW2.mono ?_
  rintro e w4 ⟨rfl, hsd4, hb4⟩
  have HB4 := Lib.hid (HB3.out.trans hb4)
  clear hb4 hW2 hsd3
  go_wp2_with fail
  have hW3 := write_sd hsd4 HB4.out.size (by omega) (i : Int) B' cb b hlb (hB.keep HB4.out)
  rw [hw.g, hw.w3] at hW3
  refine hW3.mono ?_
  rintro e w5 ⟨rfl, hsd5, hb5⟩
  have HB5 := Lib.hid (HB4.out.trans hb5)
  clear hb5 hW3 hsd4
  have hst3 := hst.2.2
  have HO := Lib.hid ho
  have HI := Lib.hid hi
  have HKK := Lib.hid hk
  have HNI := Lib.hid hl
  have HC := Lib.hid hC
  clear hw hst hA hC ho hi hk hl
  go_wp2_with fail
  have hSy := sync_sd hsd5 HB5.out.size (by omega)
  rw [hs, hs4] at hSy
  refine hSy.mono ?_
  rintro e w6 ⟨rfl, hsd6, hb6⟩
  have HB6 := Lib.hid (HB5.out.trans hb6)
  clear hb6 hSy hsd5 hs hs4
  go_wp2_with fail
  have hR1 := read_sd hsd6 (by rw [HO.out.st]; simp) i (by rw [HO.out.n]; exact HI.out)
  rw [HO.out.st, show Dk.seen i (Dk.blk d4.kept i) [] = Dk.blk d4.kept i from rfl, HO.out.x] at hR1
  refine hR1.mono ?_
  rintro e w7 ⟨gx, rfl, hgx, hbx, hb7⟩
  have hsd7 := hsd6.keep hb7
  have HB7 := Lib.hid (HB6.out.trans (hb7.mono HB6.out.size))
  have HX := Lib.hid (cB_in hbx)
  clear hb7 hR1 hsd6 hbx hgx
  go_wp2_with fail
  have hR2 := read_sd hsd7 (by rw [HO.out.st]; simp) k (by rw [HO.out.n]; exact HKK.out)
  rw [HO.out.st, show Dk.seen k (Dk.blk d4.kept k) [] = Dk.blk d4.kept k from rfl] at hR2
  refine hR2.mono ?_
  rintro e w8 ⟨gy, rfl, hgy, hby, hb8⟩
  have hsd8 := hsd7.keep hb8
  have HB8 := Lib.hid (HB7.out.trans (hb8.mono HB7.out.size))
  have HX8 := Lib.hid (HX.out.keep hb8)
  have HY8 := Lib.hid (cB_in hby)
  have HSD8 := Lib.hid hsd8
  clear hb8 hR2 hsd7 hby hgy hsd8 HX
  obtain ⟨i0, hi0, hz0, hz1, hz2⟩ := info_parts Try.infoByte
  obtain ⟨mb, hmb⟩ : ∃ mb : Nat, mb = 32 - b.length := ⟨_, rfl⟩
  obtain ⟨mc, hmc⟩ : ∃ mc : Nat, mc = 32 - c.length := ⟨_, rfl⟩
  have hsb : (32 : Int) - (b.length : Int) = (mb : Int) := by omega
  have hsc : (32 : Int) - (c.length : Int) = (mc : Int) := by omega
  have hmb2 : b.length + mb ≤ 32 := by omega
  have hmc2 : c.length + mc ≤ 32 := by omega
  have HMB := Lib.hid hmb
  have HMC := Lib.hid hmc
  have hin : ∀ (D : Option Addr) (d : List UInt8), BInB w w.heap.size D d → ∀ wx, Below w.heap.size w wx → 0 < d.length → ∃ ad, D = some ad ∧ ∀ j u, (bcs d)[j]? = some u → (wx.alloc (.cells #[] 5)).cell? (ad.add j) = some u := fun D d hD wx hbx hn => by
    obtain ⟨bb, off, e, hlt, hc⟩ := hD hn
    refine ⟨_, e, fun j u hu => ?_⟩
    have hj : j < d.length := by have := (List.getElem?_eq_some_iff.1 hu).1; rw [bcs_len] at this; exact this
    rw [Addr.add_mid, ((hbx.alloc hbx.size _).cell (p := ⟨bb, off + j, none⟩) hlt), hc j hj]
    simpa [bcs, List.getElem?_eq_getElem hj] using hu
  have HHB := Lib.hid (hin B' b hB)
  have HHC := Lib.hid (hin C c HC.out)
  have hbl32 : b.length ≤ 32 := by omega
  have hcl32 : c.length ≤ 32 := by omega
  clear hin hmb hmc hB
  go_wp2_with (first
    | ((with_reducible refine wpList_append_gen (o := ⟨some 88, _, _, _, _, _⟩) rfl (.tmp 86) (.tmp 87) 29 rfl w8.heap.size 5 i0 (.int .u8 0) 1 1 Try.underlying29 hi0 hz0 hz1 hz2 rfl ?_ (.slice (some ⟨w8.heap.size, 0, none⟩) 0 0) 0 [] ?_ ?_ B' b.length cb (bcs b) ?_ ?_ ?_ (bcs_one b) ?_ ?_ ?_ ?_); exact (by omega); exact rfl; exact (own_empty w8 w8.heap.size 5 1 (Nat.le_refl _) _ rfl); exact rfl; exact (by rw [bcs_len, Nat.mul_one]); exact (HHB.out w8 HB8.out); exact (by unfold maxLen; omega); exact (by omega); exact (by simp); intro v9 w9 hown9 hgrow9 hat9; rw [Nat.zero_add, List.nil_append] at hown9; obtain ⟨g9, cap9, rfl, hg9, hgl9⟩ := own_some hown9 (by rcases hat9 with e | e <;> rw [e] <;> simp [Value.ownBlock]); have HB9 : Hid (Below w8.heap.size w8 w9) := Lib.hid (((Below.refl _ _).alloc (Nat.le_refl _) _).grown hgrow9 (by simp) (fun q hq => by simp [Value.ownBlock] at hq; omega)); clear hat9 hgrow9)
    | ((with_reducible refine wpList_append_zeros (o := ⟨some 92, _, _, _, _, _⟩) rfl (.tmp 88) (.tmp 91) rfl w8.heap.size g9 b.length cap9 mb (bcs b) ?_ ?_ hown9 ?_ HB9.out.size ?_); exact rfl; exact rfl; exact (by omega); intro v10 w10 hown10 hgrow10; obtain ⟨A10, cap10, rfl, _, _, _, _⟩ := own_form hown10; have HB10 : Hid (Below w8.heap.size w8 w10) := Lib.hid (HB9.out.grown hgrow10 HB9.out.size (fun q hq => by injection hq with hq; omega)); have HW10 : Hid (w10.ownsRow w8.heap.size 5 1 (.slice A10 (b.length + mb) cap10) (b.length + mb) (bcs (Dk.pad b))) := Lib.hid (by rw [HMB.out, bcs_pad] at hown10; rw [HMB.out]; exact hown10); clear hown10 hgrow10 hown9)
    | ((with_reducible refine wpList_append_gen (o := ⟨some 95, _, _, _, _, _⟩) rfl (.tmp 93) (.tmp 94) 29 rfl w10.heap.size 5 i0 (.int .u8 0) 1 1 Try.underlying29 hi0 hz0 hz1 hz2 rfl ?_ (.slice (some ⟨w10.heap.size, 0, none⟩) 0 0) 0 [] ?_ ?_ C c.length cc (bcs c) ?_ ?_ ?_ (bcs_one c) ?_ ?_ ?_ ?_); exact (by omega); exact rfl; exact (own_empty w10 w10.heap.size 5 1 (Nat.le_refl _) _ rfl); exact rfl; exact (by rw [bcs_len, Nat.mul_one]); exact (HHC.out w10 (HB8.out.trans (HB10.out.mono HB8.out.size))); exact (by unfold maxLen; omega); exact (by omega); exact (by simp); intro v11 w11 hown11 hgrow11 hat11; rw [Nat.zero_add, List.nil_append] at hown11; obtain ⟨g11, cap11, rfl, hg11, hgl11⟩ := own_some hown11 (by rcases hat11 with e | e <;> rw [e] <;> simp [Value.ownBlock]); have HB11 : Hid (Below w10.heap.size w10 w11) := Lib.hid (((Below.refl _ _).alloc (Nat.le_refl _) _).grown hgrow11 (by simp) (fun q hq => by simp [Value.ownBlock] at hq; omega)); clear hat11 hgrow11)
    | ((with_reducible refine wpList_append_zeros (o := ⟨some 99, _, _, _, _, _⟩) rfl (.tmp 95) (.tmp 98) rfl w10.heap.size g11 c.length cap11 mc (bcs c) ?_ ?_ hown11 ?_ HB11.out.size ?_); exact rfl; exact rfl; exact (by omega); intro v12 w12 hown12 hgrow12; obtain ⟨A12, cap12, rfl, _, _, _, _⟩ := own_form hown12; have HB12 : Hid (Below w10.heap.size w10 w12) := Lib.hid (HB11.out.grown hgrow12 HB11.out.size (fun q hq => by injection hq with hq; omega)); have HW12 : Hid (w12.ownsRow w10.heap.size 5 1 (.slice A12 (c.length + mc) cap12) (c.length + mc) (bcs (Dk.pad c))) := Lib.hid (by rw [HMC.out, bcs_pad] at hown12; rw [HMC.out]; exact hown12); clear hown12 hgrow12 hown11))
  have hB812 : Below w8.heap.size w8 w12 := HB10.out.trans (HB12.out.mono HB10.out.size)
  have hSt := staged_sd (HSD8.out.keep hB812)
  rw [HO.out.st, List.length_nil] at hSt
  have HFIN := Lib.hid (HB8.out.trans (hB812.mono HB8.out.size))
  have hpb : (Dk.pad b).length = 32 := Dk.pad_len b hbl32
  have hpc : (Dk.pad c).length = 32 := Dk.pad_len c hcl32
  have v1 := bin_string w12 _ (Dk.pad b) 32 (HX8.out.keep hB812)
  rw [hpb] at v1
  have v2 := bin_string w12 A10 (Dk.pad b) cap10 ((own_in HW10.out).keep HB12.out)
  rw [hpb, show (32 : Nat) = b.length + mb by have := HMB.out; omega] at v2
  have hE := S_eq (Dk.pad b) (Dk.pad b)
  rw [decide_eq_true rfl] at hE
  have v4 := bin_string w12 A12 (Dk.pad c) cap12 (own_in HW12.out)
  rw [hpc, show (32 : Nat) = c.length + mc by have := HMC.out; omega] at v4
  have v3 := bin_string w12 _ (Dk.blk d4.kept k) 32 (HY8.out.keep hB812)
  have HYY := Lib.hid HO.out.y
  clear hpb hB812
  rw [v1]
  simp only [Result.andThen]
  rw [Oper.upon_value]
  by_cases hik : i = k
  · have i1 : ((i : Int) == (k : Int)) = true := by rw [hik]; simp
    clear v3 v4 hpc hik
    go_wp2_with (refine hSt.mono ?_; rintro e w' ⟨rfl, rfl⟩)
    go_ret
    exact ⟨rfl, HFIN.out⟩
  · have i1 : ((i : Int) == (k : Int)) = false := by simp; omega
    rw [HYY.out hik, hpc] at v3
    have hE2 := S_eq (Dk.pad c) (Dk.pad c)
    rw [decide_eq_true rfl] at hE2
    clear hpc hik
    go_wp2_with (refine hSt.mono ?_; rintro e w' ⟨rfl, rfl⟩)
    go_ret
    exact ⟨rfl, HFIN.out⟩

/-- THE STATEMENT's CALL, at any input. -/
theorem diskOrder_any (w : World) (bl : Int) (hbl : 0 ≤ bl ∧ bl < 256) (i k : Int) (A B' C : Option Addr) (a b c : List UInt8) (ca cb cc : Nat) (hA : BInB w w.heap.size A a) (hB : BInB w w.heap.size B' b) (hC : BInB w w.heap.size C c) (la : a.length ≤ 9223372036854775807) (lb : b.length ≤ 9223372036854775807) (lc : c.length ≤ 9223372036854775807) :
    Calls Try.prog 8 #[.int .u8 bl, .int .i64 i, .int .i64 k, .slice A a.length ca, .slice B' b.length cb, .slice C c.length cc] w (AwakePost w) := by
  obtain ⟨m, hm⟩ : ∃ m : Nat, bl % 41 = (m : Int) := ⟨(bl % 41).toNat, by omega⟩
  have hm40 : m ≤ 40 := by omega
  have h : OrdIn w bl m A B' C a b c := ⟨hbl, hm, hA, hB, hC, la, lb, lc⟩
  by_cases hl : 32 < a.length ∨ 32 < b.length ∨ 32 < c.length
  · exact order_long w bl m i k A B' C a b c ca cb cc h hl
  · have hn : (Dk.new (m : Int)).n = m := new_n m (by omega)
    have hl0 : (Dk.new (m : Int)).left < 0 := by show (-1 : Int) < 0; omega
    have hp0 : (Dk.new (m : Int)).plan = [] := rfl
    by_cases hi : 0 ≤ i ∧ i < (m : Int)
    · by_cases hk : 0 ≤ k ∧ k < (m : Int)
      · obtain ⟨i', rfl⟩ := Int.eq_ofNat_of_zero_le hi.1
        obtain ⟨k', rfl⟩ := Int.eq_ofNat_of_zero_le hk.1
        obtain ⟨e1, e2, e3, e4, e5⟩ := Dk.order_ok (m : Int) i' k' a b c (by omega) (by omega) (by omega) (by rw [hn]; omega) (by rw [hn]; omega)
        rw [hn] at e5
        exact order_good w bl m i' k' A B' C a b c ca cb cc h hl _ _ _ _ ⟨rfl, rfl, rfl, rfl, e1, e2, e3⟩ e4 rfl e5 (by omega) (by omega)
      · obtain ⟨f1, f2⟩ := (Dk.fresh_write hl0 hp0 i a (by omega)).2 hi.1 (by rw [hn]; exact hi.2)
        have hn1 := (Dk.order_n (m : Int) i k a c).1
        rw [hn] at hn1
        have hl1 : ((Dk.new (m : Int)).write i a).left < 0 := by rw [f2]; exact hl0
        have hp1 : ((Dk.new (m : Int)).write i a).plan = [] := by rw [f2]; rfl
        obtain ⟨g1, g2⟩ := (Dk.fresh_write hl1 hp1 k c (by omega)).1 (by rw [hn1]; omega)
        have hw : W3 (Dk.new (m : Int)) ((Dk.new (m : Int)).write i a) (((Dk.new (m : Int)).write i a).write k c) ((((Dk.new (m : Int)).write i a).write k c).write i b) i k a b c 0 4 ((((Dk.new (m : Int)).write i a).write k c).writeE i b) := ⟨rfl, rfl, rfl, rfl, f1, g1, rfl⟩
        refine order_bad w bl m i k A B' C a b c ca cb cc h _ _ _ _ _ _ hw hl (.inr ⟨rfl, by omega⟩) ?_
        rw [g2]
        have := (Dk.fresh_write hl1 hp1 i b (by omega)).2 hi.1 (by rw [hn1]; exact hi.2)
        rw [this.2, f2]
        show ([] ++ [_] ++ [_] : List (Nat × List UInt8)).length < 3
        simp
    · obtain ⟨f1, f2⟩ := (Dk.fresh_write hl0 hp0 i a (by omega)).1 (by rw [hn]; omega)
      have hw : W3 (Dk.new (m : Int)) ((Dk.new (m : Int)).write i a) (((Dk.new (m : Int)).write i a).write k c) ((((Dk.new (m : Int)).write i a).write k c).write i b) i k a b c 4 (((Dk.new (m : Int)).write i a).writeE k c) ((((Dk.new (m : Int)).write i a).write k c).writeE i b) := ⟨rfl, rfl, rfl, rfl, f1, rfl, rfl⟩
      refine order_bad w bl m i k A B' C a b c ca cb cc h _ _ _ _ _ _ hw hl (.inl (by omega)) ?_
      have hs : ∀ (d : Dk.D) (j : Int) (x : List UInt8), (d.write j x).st.length ≤ d.st.length + 1 := fun d j x => by
        have := Dk.ex_st d ⟨1, j, x, []⟩
        simpa [Dk.D.ex] using this
      rw [f2]
      have h1 := hs (Dk.new (m : Int)) k c
      have h2 := hs ((Dk.new (m : Int)).write k c) i b
      have h0 : (Dk.new (m : Int)).st.length = 0 := rfl
      omega
