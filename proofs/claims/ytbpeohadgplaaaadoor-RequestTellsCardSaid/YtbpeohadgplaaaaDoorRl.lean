/- What package request's Write answers, for any request of at most 50 headers and texts of at most 5000 bytes. -/
import Derived.Test.YtbpeohadgplaaaaDoorRk
import Derived.Test.YtbpeohadgplaaaaDoorRefB
import Derived.Test.YtbpeohadgplaaaaDoorBuild
namespace Go.Proofs.YtbpeohadgplaaaaDoor
set_option maxRecDepth 8000
open Go.RowKit

def RAt (w : World) (b : Nat) (w' : World) : Prop := Below w.heap.size w w' ∧ b < w'.heap.size
theorem RAt.drew {w w' : World} {b : Nat} (h : RAt w b w') : RAt w b w'.drew := ⟨h.1.trans ⟨rfl, rfl, rfl, Nat.le_refl _, fun _ _ => rfl⟩, h.2⟩
theorem RAt.call {w w' w'' : World} {b : Nat} (h : RAt w b w') (hb : Below w'.heap.size w' w'') : RAt w b w'' :=
  ⟨h.1.trans (hb.mono h.1.size), Nat.lt_of_lt_of_le h.2 hb.size⟩
theorem RAt.cell {w w' w'' : World} {b i : Nat} {v : Value} (h : RAt w b w') (hb : Below w'.heap.size w' w'') (hc : w'.cell? ⟨b, i, none⟩ = some v) : w''.cell? ⟨b, i, none⟩ = some v :=
  (hb.cell (p := ⟨b, i, none⟩) h.2).trans hc

def wrRes (r : Except Nat (List UInt8)) : Ending :=
  match r with
  | .ok s => .returned (.tuple #[.string (S s), .int .i64 0])
  | .error n => .returned (.tuple #[.string ⟨#[]⟩, .int .i64 n])
section
variable {r : Req.R}
theorem write_1 (h : Req.right r = false) : Req.write r = .error 1 := by unfold Req.write; rw [if_neg (by rw [h]; simp)]
theorem write_2 (h : Req.right r = true) (h2 : 4096 < Req.fewest r + r.heads.length) : Req.write r = .error 2 := by unfold Req.write; rw [if_pos h, if_pos h2]
theorem write_3 (h : Req.right r = true) (h2 : ¬ 4096 < Req.fewest r + r.heads.length) : Req.write r = .ok (Req.text [32] r) := by unfold Req.write; rw [if_pos h, if_neg h2]
theorem right_few (h : Req.right r = true) : Req.fewest r ≤ 4096 := by
  unfold Req.right at h
  simp only [Bool.and_eq_true, decide_eq_true_eq] at h
  exact h.1.1.1.1.2
end
theorem headText_take {l : List Pct.PairL} (k : Nat) : (Req.headText [32] (l.take k)).length ≤ Req.sumH l + l.length := by
  have h1 := Req.headText_len [32] l
  have h2 := Req.headText_len [32] (l.take k)
  have h3 : (Req.headText [32] (l.take k)).length ≤ (Req.headText [32] l).length := by
    have e : Req.headText [32] l = Req.headText [32] (l.take k) ++ Req.headText [32] (l.drop k) := by
      unfold Req.headText
      rw [← List.flatMap_append, List.take_append_drop]
    rw [e, List.length_append]
    omega
  rw [h1] at h3
  simpa using h3

set_option maxHeartbeats 1600000 in
theorem reqWrite_any (m t : List UInt8) (A : Option Addr) (cap : Nat) (l : List Pct.PairL) (b : List UInt8) (w : World) (hl : PCells w w.heap.size A l) (hf : FewR m t l b) :
    Calls Tryd.prog 20 #[.agg #[.string (S m), .string (S t), .slice A l.length cap, .string (S b)]] w (Told w (wrRes (Req.write ⟨m, t, l, b⟩))) := by
  have hb0 := below_alloc w (.cells #[.string (S m), .string (S t), .slice A l.length cap, .string (S b)] 33)
  have B0 := BlkR.new w m t b (.slice A l.length cap)
  have hz0 : w.heap.size < (w.alloc (.cells #[.string (S m), .string (S t), .slice A l.length cap, .string (S b)] 33)).heap.size := by simp
  have hl0 := hl.next hb0
  have HF := Lib.hid hf
  have hn50 := hf.n
  clear hf
  generalize hW : w.alloc (.cells #[.string (S m), .string (S t), .slice A l.length cap, .string (S b)] 33) = w0 at hb0 B0 hl0 hz0
  have c0 := B0.c0
  have c1 := B0.c1
  have c2 := B0.c2
  have c3 := B0.c3
  go_enter Tryd.func20, Tryd.ntmps20
  go_wp2_with fail
  refine (right_any m t A cap l b w0 hl0 HF.out).mono ?_
  rintro e w1 ⟨rfl, hb1⟩
  have B1 := B0.below hb1 hz0
  have hz1 := Nat.lt_of_lt_of_le hz0 hb1.size
  have hb1' := below_step hb0 hb1
  clear c0 c1 c2 c3 hb0 hb1 B0 hz0 hl0 hW
  cases hr : Req.right ⟨m, t, l, b⟩ with
  | false =>
    have HR := Lib.hid (write_1 hr)
    clear hr
    go_wp2
    go_ret2
    exact ⟨by rw [HR.out]; rfl, hb1'⟩
  | true =>
    have hfew := right_few hr
    have HR2 := Lib.hid (write_2 hr)
    have HR3 := Lib.hid (write_3 hr)
    have HSL := Lib.hid (show m.length + t.length + 14 + b.length + Req.sumH l = Req.fewest ⟨m, t, l, b⟩ from rfl)
    have HFC := Lib.hid (fun w' h => fewest_any m t A cap l b w' h HF.out)
    obtain ⟨n, hn⟩ : ∃ n, n = Req.fewest ⟨m, t, l, b⟩ := ⟨_, rfl⟩
    rw [← hn] at HR2 HR3 HFC HSL hfew
    clear hn hr
    have hsum : IntKind.i64.wrap ((n : Int) + (l.length : Int)) = (n : Int) + (l.length : Int) := IntWalk.i64_in _ (by omega)
    have c0 := B1.c0
    have c1 := B1.c1
    have c2 := B1.c2
    have c3 := B1.c3
    go_wp2_with fail
    have hU : RAt w w.heap.size w1 := ⟨hb1', hz1⟩
    clear hb1'
    go_region_held3 (fun w' => w'.cell? ⟨w.heap.size, 0, none⟩ = some (.string (S m)) ∧ w'.cell? ⟨w.heap.size, 1, none⟩ = some (.string (S t)) ∧ w'.cell? ⟨w.heap.size, 2, none⟩ = some (.slice A l.length cap) ∧ w'.cell? ⟨w.heap.size, 3, none⟩ = some (.string (S b)) ∧ RAt w w.heap.size w')
      (first
        | exact ⟨c0, c1, c2, c3, RAt.drew hU⟩
        | (go_split_ands
           refine ⟨RAt.cell ‹RAt _ _ _› hb ‹_›, RAt.cell ‹RAt _ _ _› hb ‹_›, RAt.cell ‹RAt _ _ _› hb ‹_›, RAt.cell ‹RAt _ _ _› hb ‹_›, RAt.call ‹RAt _ _ _› hb⟩))
      (first
        | (go_at_call 59; go_split_ands; refine (HFC.out _ (hl.next (‹RAt _ _ _›).1)).mono ?_; rintro e w' ⟨rfl, hb⟩))
    rename_i hH
    obtain ⟨d0, d1, d2, d3, hU2⟩ := hH
    have hbw : Below w1.heap.size w1 w' := (Below.drew (Below.refl w1.heap.size w1)).trans hb
    have B2 := B1.below hbw hz1
    have hz2 := hU2.2
    have hb2 := hU2.1
    have hl2 := hl.next hb2
    clear c0 c1 c2 c3 hb hbw B1 hz1 hU hU2 hsum HFC d0 d1 d2 d3 hl
    by_cases hlong : 4096 < n + l.length
    · have HR := Lib.hid (HR2.out hlong)
      have hlong' : (4096 : Int) < (n : Int) + (l.length : Int) := by omega
      go_wp2
      go_ret2
      exact ⟨by rw [HR.out]; rfl, hb2⟩
    · have HR := Lib.hid (HR3.out hlong)
      have hlong' : ¬ (4096 : Int) < (n : Int) + (l.length : Int) := by omega
      have hsl := HSL.out
      have HT := Lib.hid (show Req.text [32] ⟨m, t, l, b⟩ = m ++ [32] ++ t ++ [32] ++ Req.version ++ [13, 10] ++ Req.headText [32] l ++ ([13, 10] ++ b) from rfl)
      have a1 : ∀ w'' : World, (Op.stringOp .add (S m) ⟨#[32]⟩).run Tryd.prog w'' = .ok (.string (S (m ++ [32]))) w'' := fun w'' => run_add_S w'' m [32] (by simp; omega)
      obtain ⟨x1, hx1⟩ : ∃ x, x = m ++ [32] := ⟨_, rfl⟩
      have hl1 : x1.length = m.length + 1 := by rw [hx1]; simp
      rw [← hx1] at a1 HT
      have a2 : ∀ w'' : World, (Op.stringOp .add (S x1) (S t)).run Tryd.prog w'' = .ok (.string (S (x1 ++ t))) w'' := fun w'' => run_add_S w'' x1 t (by omega)
      obtain ⟨x2, hx2⟩ : ∃ x, x = x1 ++ t := ⟨_, rfl⟩
      have hxl2 : x2.length = m.length + 1 + t.length := by rw [hx2]; simp; omega
      rw [← hx2] at a2 HT
      have a3 : ∀ w'' : World, (Op.stringOp .add (S x2) ⟨#[32]⟩).run Tryd.prog w'' = .ok (.string (S (x2 ++ [32]))) w'' := fun w'' => run_add_S w'' x2 [32] (by simp; omega)
      obtain ⟨x3, hx3⟩ : ∃ x, x = x2 ++ [32] := ⟨_, rfl⟩
      have hxl3 : x3.length = m.length + 1 + t.length + 1 := by rw [hx3]; simp; omega
      rw [← hx3] at a3 HT
      have a4 : ∀ w'' : World, (Op.stringOp .add (S x3) ⟨#[72, 84, 84, 80, 47, 49, 46, 49]⟩).run Tryd.prog w'' = .ok (.string (S (x3 ++ Req.version))) w'' := fun w'' => run_add_S w'' x3 Req.version (by simp [Req.version]; omega)
      obtain ⟨x4, hx4⟩ : ∃ x, x = x3 ++ Req.version := ⟨_, rfl⟩
      have hxl4 : x4.length = m.length + t.length + 10 := by rw [hx4]; simp [Req.version]; omega
      rw [← hx4] at a4 HT
      have a5 : ∀ w'' : World, (Op.stringOp .add (S x4) ⟨#[13, 10]⟩).run Tryd.prog w'' = .ok (.string (S (x4 ++ [13, 10]))) w'' := fun w'' => run_add_S w'' x4 [13, 10] (by simp; omega)
      obtain ⟨x5, hx5⟩ : ∃ x, x = x4 ++ [13, 10] := ⟨_, rfl⟩
      have hxl5 : x5.length = m.length + t.length + 12 := by rw [hx5]; simp; omega
      rw [← hx5] at a5 HT
      have a6 : ∀ w'' : World, (Op.stringOp .add ⟨#[13, 10]⟩ (S b)).run Tryd.prog w'' = .ok (.string (S ([13, 10] ++ b))) w'' := fun w'' => run_add_S w'' [13, 10] b (by simp; omega)
      obtain ⟨x6, hx6⟩ : ∃ x, x = [13, 10] ++ b := ⟨_, rfl⟩
      have hxl6 : x6.length = b.length + 2 := by rw [hx6]; simp
      rw [← hx6] at a6 HT
      have HL := Lib.hid (fun k => headText_take (l := l) k)
      clear hx1 hx2 hx3 hx4 hx5 hx6
      have c0 := B2.c0
      have c1 := B2.c1
      have c2 := B2.c2
      have c3 := B2.c3
      have hbld0 : Bld w'.heap.size w'.heap.size [] (w'.alloc (.cells #[.pointer none, .slice none 0 0] 79)) := Lib.fresh_isBuilder _ _ w'
      have hbe := below_alloc w' (.cells #[.pointer none, .slice none 0 0] 79)
      go_wp2_with fail
      refine (writeString_any w'.heap.size w'.heap.size [] x5 _ hbld0 (by simp; omega) hbe.size).mono ?_
      rintro e w3 ⟨rfl, hbld3, hb3, _⟩
      have hb3' : Below w'.heap.size w' w3 := hbe.trans hb3
      rw [List.nil_append] at hbld3
      have B3 := B2.below hb3' hz2
      clear c0 c1 c2 c3 hb3 hbe hbld0
      have c2 := B3.c2
      go_wp2
      go_loopw [32] (fun i wr => ∃ k : Nat, k ≤ l.length ∧ i = .int .i64 k ∧ Bld w'.heap.size w'.heap.size (x5 ++ Req.headText [32] (l.take k)) wr ∧ Below w'.heap.size w' wr) (fun i _ => l.length - (intOf i).toNat)
      case atStart => exact ⟨0, Nat.zero_le _, rfl, by simpa [Req.headText] using hbld3, hb3'⟩
      case round =>
        obtain ⟨k, hk, rfl, hbld, hbr⟩ := hrel
        have hhl := HL.out k
        obtain ⟨acc, hacc⟩ : ∃ acc, acc = x5 ++ Req.headText [32] (l.take k) := ⟨_, rfl⟩
        have hal : acc.length ≤ 5000 := by rw [hacc, List.length_append]; omega
        rw [← hacc] at hbld
        have HACC := Lib.hid hacc
        clear hacc hhl c2
        by_cases hlt : k < l.length
        · obtain ⟨ab, off, rfl, hbb, hcl⟩ := hl2 (by omega)
          obtain ⟨c0', c1'⟩ := hcl k hlt
          have hql := HF.out.q k hlt
          clear hcl
          have HTK := Lib.hid (List.take_succ_eq_append_getElem hlt)
          obtain ⟨x, hx⟩ : ∃ x, x = l[k].1 := ⟨_, rfl⟩
          obtain ⟨y, hy⟩ : ∃ y, y = l[k].2 := ⟨_, rfl⟩
          rw [← hx] at c0' hql
          rw [← hy] at c1' hql
          have HX := Lib.hid (show l[k] = (x, y) by rw [hx, hy])
          clear hx hy
          have d0 : wr.cell? ⟨ab, off + k * 2, none⟩ = some (.string (S x)) := (hbr.cell (p := ⟨ab, off + k * 2, none⟩) hbb).trans c0'
          have d1 : wr.cell? ⟨ab, off + k * 2 + 1, none⟩ = some (.string (S y)) := (hbr.cell (p := ⟨ab, off + k * 2 + 1, none⟩) hbb).trans c1'
          clear c0' c1'
          have i0 : (0 : Int) ≤ (k : Int) := by omega
          have i1 : (k : Int) < (l.length : Int) := by omega
          have q1 : ∀ w'' : World, (Op.stringOp .add (S x) ⟨#[58, 32]⟩).run Tryd.prog w'' = .ok (.string (S (x ++ [58, 32]))) w'' := fun w'' => run_add_S w'' x [58, 32] (by simp; omega)
          have HN := Lib.hid (show Req.hline [32] (x, y) = x ++ [58, 32] ++ y ++ [13, 10] by simp [Req.hline])
          obtain ⟨y1, hy1⟩ : ∃ z, z = x ++ [58, 32] := ⟨_, rfl⟩
          have hyl1 : y1.length = x.length + 2 := by rw [hy1]; simp
          rw [← hy1] at q1 HN
          have q2 : ∀ w'' : World, (Op.stringOp .add (S y1) (S y)).run Tryd.prog w'' = .ok (.string (S (y1 ++ y))) w'' := fun w'' => run_add_S w'' y1 y (by omega)
          obtain ⟨y2, hy2⟩ : ∃ z, z = y1 ++ y := ⟨_, rfl⟩
          have hyl2 : y2.length = x.length + 2 + y.length := by rw [hy2]; simp; omega
          rw [← hy2] at q2 HN
          have q3 : ∀ w'' : World, (Op.stringOp .add (S y2) ⟨#[13, 10]⟩).run Tryd.prog w'' = .ok (.string (S (y2 ++ [13, 10]))) w'' := fun w'' => run_add_S w'' y2 [13, 10] (by simp; omega)
          obtain ⟨y3, hy3⟩ : ∃ z, z = y2 ++ [13, 10] := ⟨_, rfl⟩
          have hyl3 : y3.length = x.length + 4 + y.length := by rw [hy3]; simp; omega
          rw [← hy3] at q3 HN
          clear hy1 hy2 hy3
          have hbe := below_alloc wr (.cells #[.string (S x), .string (S y)] 51)
          have hbld1 := hbld.below hbe
          have hs1 : w'.heap.size ≤ (wr.alloc (.cells #[.string (S x), .string (S y)] 51)).heap.size := by have := hbr.size; simp; omega
          have hbr1 := hbr.alloc hbr.size (.cells #[.string (S x), .string (S y)] 51)
          clear hbe hbld
          go_wp2_with fail
          refine (writeString_any w'.heap.size w'.heap.size acc y3 _ hbld1 (by omega) hs1).mono ?_
          rintro e w4 ⟨rfl, hbld4, hb4, _⟩
          have hb4' := hbr1.trans hb4
          go_wp2
          go_roundw
          case rel =>
            refine ⟨k + 1, by omega, by go_num, ?_, hb4'⟩
            rw [HTK.out, Req.headText_snoc, HX.out, HN.out, ← List.append_assoc, ← HACC.out]
            exact hbld4
          case measure => simp [intOf]; omega
        · have HE := Lib.hid (show Req.text [32] ⟨m, t, l, b⟩ = acc ++ x6 by rw [HT.out, HACC.out, List.take_of_length_le (by omega)])
          have B4 := B2.below hbr hz2
          have c3 := B4.c3
          go_wp2_with fail
          refine (writeString_any w'.heap.size w'.heap.size acc x6 wr hbld (by omega) hbr.size).mono ?_
          rintro e w4 ⟨rfl, hbld4, hb4, _⟩
          have hb4' := hbr.trans hb4
          go_wp2_with fail
          refine (string_some w'.heap.size w'.heap.size (acc ++ x6) w4 hbld4 (by intro h; have := congrArg List.length h; rw [List.length_append, hxl6, List.length_nil] at this; omega)).mono ?_
          rintro e w5 ⟨rfl, hb5⟩
          go_wp2
          go_ret2
          exact ⟨by rw [HR.out, HE.out]; rfl, below_step hb2 (hb4'.trans hb5)⟩
end Go.Proofs.YtbpeohadgplaaaaDoor
