/- What package cookie's Set answers, for any cookie with texts of at most 2^20 bytes, where the table of strconv that it reaches reads as its text lays it. -/
import Derived.Test.YtpdilhnbbokipaaDoorCi
namespace Go.Proofs.YtpdilhnbbokipaaDoor
set_option maxRecDepth 8000
open Go.RowKit

/-- What the calls read of package-level variables. -/
structure EnvC (w : World) : Prop where
  big : ∃ m, w.cell? ⟨0, 0, none⟩ = some (.int .i64 m)
  tab : Lib.TabIs Tryd.prog w "internal/strconv.uint64pow10" .u64 Lib.pow10Tab
  lt : 0 < w.heap.size ∧ 3 < w.heap.size

theorem gTab : Tryd.prog.globalNamed "internal/strconv.uint64pow10" = some 3 := by kernel_rfl
theorem EnvC.below {base : Nat} {w w' : World} (h : EnvC w) (hb : Below base w w') (h5 : 0 < base ∧ 3 < base) : EnvC w' := by
  have hbs := hb.size
  have hlt := h.lt
  refine ⟨?_, ?_, ⟨Nat.lt_of_lt_of_le hlt.1 hbs, Nat.lt_of_lt_of_le hlt.2 hbs⟩⟩
  · obtain ⟨m, hm⟩ := h.big
    exact ⟨m, (hb.cell (p := ⟨0, 0, none⟩) h5.1).trans hm⟩
  · have ht := h.tab
    unfold Lib.TabIs World.var? at ht ⊢
    rw [gTab] at ht ⊢
    simp only [Option.bind_some] at ht ⊢
    rw [hb.block 3 h5.2]
    exact ht
theorem EnvC.next {w w' : World} (h : EnvC w) (hb : Below w.heap.size w w') : EnvC w' := h.below hb h.lt

theorem itoa_any (n : Int) (w : World) (he : EnvC w) (h0 : 0 ≤ n) (hn : n ≤ 9223372036854775807) :
    Calls Tryd.prog 40 #[.int .i64 n] w (Told w (.returned (.string (S (Lib.decDigits n.toNat))))) := by
  refine (Tryd.strconv_Itoa n (by omega) (by omega) w he.tab).mono ?_
  rintro e w' ⟨rfl, k, os, rfl⟩
  refine ⟨?_, ?_⟩
  · unfold Lib.itoa
    rw [if_neg (by omega)]
    rfl
  · refine (below_drewN (Below.refl w.heap.size w) k).trans ⟨rfl, rfl, rfl, by simp [Go.Sort.grow], fun i hi => ?_⟩
    show ((w.drewN k).heap ++ os)[i]? = _
    rw [Array.getElem?_append_left (by simpa using hi)]

theorem right_age {c : Ck.C} (h : Ck.right c = true) : -1 ≤ c.age ∧ c.age ≤ 99999999 := by
  unfold Ck.right at h
  simp only [Bool.and_eq_true, decide_eq_true_eq] at h
  exact ⟨h.1, h.2.1⟩

def setRes (c : Ck.C) : Ending := if Ck.right c = true then .returned (.tuple #[.string (S (Ck.set c)), .int .i64 0]) else .returned (.tuple #[.string ⟨#[]⟩, .int .i64 1])
def Small2 (c : Ck.C) : Prop := c.name.length ≤ 1048576 ∧ c.val.length ≤ 1048576 ∧ c.path.length ≤ 1048576
theorem Small2.small {c : Ck.C} (h : Small2 c) : Small c := ⟨by have := h.1; omega, by have := h.2.1; omega, by have := h.2.2; omega⟩
theorem dec_len (n : Int) (h1 : n ≤ 99999999) : (Lib.decDigits n.toNat).length ≤ 100 := by
  have key : ∀ (k m : Nat), m < 10 ^ k → (Lib.decDigits m).length ≤ k + 1 := by
    intro k
    induction k with
    | zero => intro m hm; rw [Lib.decDigits, dif_pos (by omega)]; simp
    | succ k ih =>
      intro m hm
      rw [Lib.decDigits]
      split
      · simp
      · rw [List.length_append]
        have := ih (m / 10) (by rw [Nat.pow_succ] at hm; omega)
        simp
        omega
  have := key 8 n.toNat (by omega)
  omega

set_option maxHeartbeats 3200000 in
theorem set_any (c : Ck.C) (w : World) (he : EnvC w) (hc : Small2 c) :
    Calls Tryd.prog 17 #[cV c] w fun e w' => e = setRes c ∧ Below w.heap.size w w' := by
  have HSM := Lib.hid hc.small
  obtain ⟨hn, hv, hp⟩ := hc
  have b0 := Blk6.new w c
  have hb0 : Below w.heap.size w (w.alloc (.cells #[.string (S c.name), .string (S c.val), .string (S c.path), .int .i64 c.age, .bool c.sec, .bool c.http] 32)) := (Below.refl _ _).alloc (Nat.le_refl _) _
  have d0 := b0.c0
  have d1 := b0.c1
  have d2 := b0.c2
  have d3 := b0.c3
  have d4 := b0.c4
  have d5 := b0.c5
  go_enter Tryd.func17, Tryd.ntmps17
  go_wp2_with fail
  refine (right_any c _ HSM.out).mono ?_
  rintro e w1 ⟨rfl, hb1⟩
  have b1 : Blk6 w1 w.heap.size c := b0.below hb1 (by simp)
  have hbw : Below w.heap.size w w1 := hb0.trans (hb1.mono (by simp))
  clear b0 hb0 hb1 d0 d1 d2 d3 d4 d5
  have d0 := b1.c0
  have d1 := b1.c1
  have d2 := b1.c2
  have d3 := b1.c3
  have d4 := b1.c4
  have d5 := b1.c5
  have hgl := b1.lt
  cases hr : Ck.right c with
  | false =>
    have HR := Lib.hid (show setRes c = .returned (.tuple #[.string ⟨#[]⟩, .int .i64 1]) by unfold setRes; rw [hr]; rfl)
    clear hr
    go_wp2
    go_ret2
    exact ⟨HR.out.symm, hbw⟩
  | true =>
    have hage := right_age hr
    have ha1 := hage.1
    have ha2 := hage.2
    have HR := Lib.hid (show setRes c = .returned (.tuple #[.string (S (Ck.set c)), .int .i64 0]) by unfold setRes; rw [hr]; rfl)
    clear hr hage
    have HS := Lib.hid (show Ck.set c = c.name ++ [61] ++ c.val ++ Ck.pathM ++ c.path ++ Ck.ageT c.age ++ Ck.secT c.sec ++ Ck.httpT c.http from rfl)
    have a1 := fun w' : World => (show (Op.stringOp .add (S c.name) ⟨#[61]⟩).run Tryd.prog w' = .ok (.string (S (c.name ++ [61]))) w' from run_add_S w' c.name [61] (by simp; omega))
    have l1 : (c.name ++ [61]).length ≤ 1048600 := by simp; omega
    obtain ⟨y1, hy1⟩ : ∃ y1, y1 = c.name ++ [61] := ⟨_, rfl⟩
    rw [← hy1] at a1 l1 HS
    clear hy1
    have a2 := fun w' : World => run_add_S w' y1 c.val (by omega)
    have l2 : (y1 ++ c.val).length ≤ 2097200 := by simp; omega
    obtain ⟨y2, hy2⟩ : ∃ y2, y2 = y1 ++ c.val := ⟨_, rfl⟩
    rw [← hy2] at a2 l2 HS
    clear hy2
    have a3 := fun w' : World => (show (Op.stringOp .add (S y2) ⟨#[59, 32, 80, 97, 116, 104, 61]⟩).run Tryd.prog w' = .ok (.string (S (y2 ++ Ck.pathM))) w' from run_add_S w' y2 Ck.pathM (by show _ + 7 ≤ _; omega))
    have l3 : (y2 ++ Ck.pathM).length ≤ 2097300 := by rw [List.length_append]; show _ + 7 ≤ _; omega
    obtain ⟨y3, hy3⟩ : ∃ y3, y3 = y2 ++ Ck.pathM := ⟨_, rfl⟩
    rw [← hy3] at a3 l3 HS
    clear hy3
    have a4 := fun w' : World => run_add_S w' y3 c.path (by omega)
    have l4 : (y3 ++ c.path).length ≤ 3145900 := by simp; omega
    obtain ⟨y4, hy4⟩ : ∃ y4, y4 = y3 ++ c.path := ⟨_, rfl⟩
    rw [← hy4] at a4 l4 HS
    clear hy4
    by_cases hage : c.age = -1
    · have e0 : (c.age != -1) = false := by rw [hage]; rfl
      rw [show Ck.ageT c.age = [] by unfold Ck.ageT; rw [if_pos hage], List.append_nil] at HS
      clear hage
      have a6 := fun w' : World => (show (Op.stringOp .add (S y4) ⟨#[59, 32, 83, 101, 99, 117, 114, 101]⟩).run Tryd.prog w' = .ok (.string (S (y4 ++ Ck.secM))) w' from run_add_S w' y4 Ck.secM (by show _ + 8 ≤ _; omega))
      have l6 : (y4 ++ Ck.secM).length ≤ 3146000 := by rw [List.length_append]; show _ + 8 ≤ _; omega
      cases hs : c.sec with
      | true =>
        rw [hs] at HS d4
        rw [show Ck.secT true = Ck.secM from rfl] at HS
        obtain ⟨y6, hy6⟩ : ∃ y6, y6 = y4 ++ Ck.secM := ⟨_, rfl⟩
        rw [← hy6] at a6 l6 HS
        clear hy6 hs
        have a7 := fun w' : World => (show (Op.stringOp .add (S y6) ⟨#[59, 32, 72, 116, 116, 112, 79, 110, 108, 121]⟩).run Tryd.prog w' = .ok (.string (S (y6 ++ Ck.httpM))) w' from run_add_S w' y6 Ck.httpM (by show _ + 10 ≤ _; omega))
        cases hh : c.http with
        | true =>
          rw [hh] at HS d5
          rw [show Ck.httpT true = Ck.httpM from rfl] at HS
          obtain ⟨y7, hy7⟩ : ∃ y7, y7 = y6 ++ Ck.httpM := ⟨_, rfl⟩
          rw [← hy7] at a7 HS
          clear hy7 hh
          go_wp2
          go_ret2
          exact ⟨by rw [HR.out, HS.out]; rfl, hbw⟩
        | false =>
          rw [hh] at HS d5
          rw [show Ck.httpT false = [] from rfl, List.append_nil] at HS
          clear hh a7
          go_wp2
          go_ret2
          exact ⟨by rw [HR.out, HS.out]; rfl, hbw⟩
      | false =>
        rw [hs] at HS d4
        rw [show Ck.secT false = [] from rfl, List.append_nil] at HS
        clear hs a6 l6
        have a7 := fun w' : World => (show (Op.stringOp .add (S y4) ⟨#[59, 32, 72, 116, 116, 112, 79, 110, 108, 121]⟩).run Tryd.prog w' = .ok (.string (S (y4 ++ Ck.httpM))) w' from run_add_S w' y4 Ck.httpM (by show _ + 10 ≤ _; omega))
        cases hh : c.http with
        | true =>
          rw [hh] at HS d5
          rw [show Ck.httpT true = Ck.httpM from rfl] at HS
          obtain ⟨y7, hy7⟩ : ∃ y7, y7 = y4 ++ Ck.httpM := ⟨_, rfl⟩
          rw [← hy7] at a7 HS
          clear hy7 hh
          go_wp2
          go_ret2
          exact ⟨by rw [HR.out, HS.out]; rfl, hbw⟩
        | false =>
          rw [hh] at HS d5
          rw [show Ck.httpT false = [] from rfl, List.append_nil] at HS
          clear hh a7
          go_wp2
          go_ret2
          exact ⟨by rw [HR.out, HS.out]; rfl, hbw⟩
    · have e0 : (c.age != -1) = true := bne_iff_ne.2 hage
      rw [show Ck.ageT c.age = Ck.ageM ++ Lib.decDigits c.age.toNat by unfold Ck.ageT; rw [if_neg hage]] at HS
      have ha0 : 0 ≤ c.age := by omega
      have ld := dec_len c.age ha2
      have hI := fun w' hw' => itoa_any c.age w' hw' ha0 (by omega)
      clear hage
      obtain ⟨dg, hdg⟩ : ∃ dg, dg = Lib.decDigits c.age.toNat := ⟨_, rfl⟩
      rw [← hdg] at HS ld hI
      clear hdg
      have a5 := fun w' : World => (show (Op.stringOp .add ⟨#[59, 32, 77, 97, 120, 45, 65, 103, 101, 61]⟩ (S dg)).run Tryd.prog w' = .ok (.string (S (Ck.ageM ++ dg))) w' from run_add_S w' Ck.ageM dg (by show 10 + _ ≤ _; omega))
      have l5 : (Ck.ageM ++ dg).length ≤ 120 := by rw [List.length_append]; show 10 + _ ≤ _; omega
      obtain ⟨z, hz⟩ : ∃ z, z = Ck.ageM ++ dg := ⟨_, rfl⟩
      rw [← hz] at a5 l5 HS
      clear hz
      have a5' := fun w' : World => run_add_S w' y4 z (by omega)
      have l5' : (y4 ++ z).length ≤ 3146100 := by simp; omega
      obtain ⟨y5, hy5⟩ : ∃ y5, y5 = y4 ++ z := ⟨_, rfl⟩
      rw [← hy5] at a5' l5' HS
      clear hy5
      go_wp2_with fail
      refine (hI w1 (he.below hbw he.lt)).mono ?_
      rintro e w2 ⟨rfl, hb2⟩
      have b2 : Blk6 w2 w.heap.size c := b1.below hb2 hgl
      have hbw2 : Below w.heap.size w w2 := hbw.trans (hb2.mono hbw.size)
      clear d0 d1 d2 d3 d4 d5 hb2 b1 hgl hI
      have d4 := b2.c4
      have d5 := b2.c5
      have a6 := fun w' : World => (show (Op.stringOp .add (S y5) ⟨#[59, 32, 83, 101, 99, 117, 114, 101]⟩).run Tryd.prog w' = .ok (.string (S (y5 ++ Ck.secM))) w' from run_add_S w' y5 Ck.secM (by show _ + 8 ≤ _; omega))
      have l6 : (y5 ++ Ck.secM).length ≤ 3146200 := by rw [List.length_append]; show _ + 8 ≤ _; omega
      cases hs : c.sec with
      | true =>
        rw [hs] at HS d4
        rw [show Ck.secT true = Ck.secM from rfl] at HS
        obtain ⟨y6, hy6⟩ : ∃ y6, y6 = y5 ++ Ck.secM := ⟨_, rfl⟩
        rw [← hy6] at a6 l6 HS
        clear hy6 hs
        have a7 := fun w' : World => (show (Op.stringOp .add (S y6) ⟨#[59, 32, 72, 116, 116, 112, 79, 110, 108, 121]⟩).run Tryd.prog w' = .ok (.string (S (y6 ++ Ck.httpM))) w' from run_add_S w' y6 Ck.httpM (by show _ + 10 ≤ _; omega))
        cases hh : c.http with
        | true =>
          rw [hh] at HS d5
          rw [show Ck.httpT true = Ck.httpM from rfl] at HS
          obtain ⟨y7, hy7⟩ : ∃ y7, y7 = y6 ++ Ck.httpM := ⟨_, rfl⟩
          rw [← hy7] at a7 HS
          clear hy7 hh
          go_wp2
          go_ret2
          exact ⟨by rw [HR.out, HS.out]; rfl, hbw2⟩
        | false =>
          rw [hh] at HS d5
          rw [show Ck.httpT false = [] from rfl, List.append_nil] at HS
          clear hh a7
          go_wp2
          go_ret2
          exact ⟨by rw [HR.out, HS.out]; rfl, hbw2⟩
      | false =>
        rw [hs] at HS d4
        rw [show Ck.secT false = [] from rfl, List.append_nil] at HS
        clear hs a6 l6
        have a7 := fun w' : World => (show (Op.stringOp .add (S y5) ⟨#[59, 32, 72, 116, 116, 112, 79, 110, 108, 121]⟩).run Tryd.prog w' = .ok (.string (S (y5 ++ Ck.httpM))) w' from run_add_S w' y5 Ck.httpM (by show _ + 10 ≤ _; omega))
        cases hh : c.http with
        | true =>
          rw [hh] at HS d5
          rw [show Ck.httpT true = Ck.httpM from rfl] at HS
          obtain ⟨y7, hy7⟩ : ∃ y7, y7 = y5 ++ Ck.httpM := ⟨_, rfl⟩
          rw [← hy7] at a7 HS
          clear hy7 hh
          go_wp2
          go_ret2
          exact ⟨by rw [HR.out, HS.out]; rfl, hbw2⟩
        | false =>
          rw [hh] at HS d5
          rw [show Ck.httpT false = [] from rfl, List.append_nil] at HS
          clear hh a7
          go_wp2
          go_ret2
          exact ⟨by rw [HR.out, HS.out]; rfl, hbw2⟩
end Go.Proofs.YtpdilhnbbokipaaDoor
