/- What the document's own Path and Text of requests answer, for any request of at most 50 headers and texts of at most 5000 bytes. -/
import Derived.Test.YtbpeohadgplaaaaDoorRr
import Derived.Test.YtbpeohadgplaaaaDoorRl
namespace Go.Proofs.YtbpeohadgplaaaaDoor
set_option maxRecDepth 8000
open Go.RowKit

theorem cut_at {c : UInt8} {a : List UInt8} {k : Nat} (hk : k < a.length) (hc : a[k] = c) (h : ∀ j (hj : j < a.length), j < k → a[j] ≠ c) : Pct.cutAt c a = (a.take k, a.drop (k + 1), true) := by
  have e : a = a.take k ++ c :: a.drop (k + 1) := by
    conv => lhs; rw [← List.take_append_drop k a, List.drop_eq_getElem_cons hk, hc]
  conv => lhs; rw [e]
  refine Pct.cutAt_first c _ _ fun x hx => ?_
  obtain ⟨j, hj, rfl⟩ := List.getElem_of_mem hx
  rw [List.length_take] at hj
  rw [List.getElem_take]
  exact h j (by omega) (by omega)
theorem cut_out {c : UInt8} {a : List UInt8} (h : ∀ j (hj : j < a.length), a[j] ≠ c) : Pct.cutAt c a = (a, [], false) :=
  Pct.cutAt_none c a (fun x hx => by
    obtain ⟨j, hj, rfl⟩ := List.getElem_of_mem hx
    exact h j hj)

set_option maxHeartbeats 800000 in
theorem refPath_any (m t : List UInt8) (A : Option Addr) (n cap : Nat) (b : List UInt8) (w : World) (hs : t.length ≤ 1073741824) :
    Calls Tryd.prog 26 #[.agg #[.string (S m), .string (S t), .slice A n cap, .string (S b)]] w (Told w (.returned (.tuple #[.string (S (Pct.cutAt 63 t).1), .string (S (Pct.cutAt 63 t).2.1)]))) := by
  have hb0 := below_alloc w (.cells #[.string (S m), .string (S t), .slice A n cap, .string (S b)] 33)
  have B0 := BlkR.new w m t b (.slice A n cap)
  generalize hW : w.alloc (.cells #[.string (S m), .string (S t), .slice A n cap, .string (S b)] 33) = w0 at hb0 B0
  have c1 := B0.c1
  have hts : (S t).size ≤ 1073741824 := hs
  go_enter Tryd.func26, Tryd.ntmps26
  go_wp2
  go_loop [4] (fun i => ∃ k : Nat, k ≤ t.length ∧ i = .int .i64 k ∧ ∀ j (hj : j < t.length), j < k → t[j] ≠ 63) (fun i => t.length - (intOf i).toNat)
  case atStart => exact ⟨0, Nat.zero_le _, rfl, fun j _ hj => absurd hj (by omega)⟩
  case round =>
    obtain ⟨k, hk, rfl, hall⟩ := hrel
    have HALL := Lib.hid hall
    clear hall
    by_cases hlt : k < t.length
    · have hlt' : k < (S t).size := hlt
      by_cases h63 : t[k] = 63
      · have e63 : ((((S t)[k]'hlt').toNat : Int) == 63) = true := by rw [show (S t)[k]'hlt' = 63 from h63]; rfl
        have HC := Lib.hid (cut_at hlt h63 HALL.out)
        have hx1 : (S t).extract 0 k = S (t.take k) := extract_piece (S t) 0 k
        have hx2 : (S t).extract (k + 1) (S t).size = S (t.drop (k + 1)) := extract_rest (S t) (k + 1)
        clear h63
        go_wp2
        have s1 : IntKind.i64.wrap ((k : Int) + 1) = (k : Int) + 1 := IntWalk.i64_in _ (by omega)
        have s2 : (0 : Int) ≤ (k : Int) + 1 := by omega
        have s3 : ((k : Int) + 1).toNat = k + 1 := by omega
        have s4 : (0 : Int) ≤ (k : Int) := by omega
        have s5 : (k : Int) ≤ ((S t).size : Int) := by omega
        have s6 : (k : Int) + 1 ≤ ((S t).size : Int) := by omega
        go_quiet (fail)
        go_wp2
        go_ret2
        exact ⟨by rw [HC.out]; rfl, below_drewN hb0 _⟩
      · have e63 := u8_ne (a := (S t)[k]'hlt') (n := 63) 63 rfl h63
        have HN := Lib.hid h63
        clear h63
        go_wp2
        go_round
        case rel =>
          refine ⟨k + 1, by omega, by go_num, fun j hj hjk => ?_⟩
          by_cases e : j = k
          · subst e; exact HN.out
          · exact HALL.out j hj (by omega)
        case measure => simp [intOf]; omega
    · have hlt' : ¬ k < (S t).size := hlt
      have HC := Lib.hid (cut_out (c := 63) (a := t) fun j hj => HALL.out j hj (by omega))
      go_wp2
      go_ret2
      exact ⟨by rw [HC.out]; rfl, hb0⟩

theorem headText_len5 {m t b gap : List UInt8} {l : List Pct.PairL} (hf : FewR m t l b) (hg : gap.length ≤ 10) (k : Nat) (hk : k ≤ l.length) : (Req.headText gap (l.take k)).length ≤ 501000 := by
  rw [Req.headText_len]
  have h1 := sumH_take hf.q k hk
  have h2 : (l.take k).length ≤ 50 := by rw [List.length_take]; have := hf.n; omega
  have h3 := hf.n
  have h4 : gap.length * (l.take k).length ≤ 10 * 50 := Nat.mul_le_mul hg h2
  omega

set_option maxHeartbeats 1600000 in
theorem refText_any (m t : List UInt8) (A : Option Addr) (cap : Nat) (l : List Pct.PairL) (b gap : List UInt8) (w : World) (hl : PCells w w.heap.size A l) (hf : FewR m t l b) (hg : gap.length ≤ 10) :
    Calls Tryd.prog 62 #[.agg #[.string (S m), .string (S t), .slice A l.length cap, .string (S b)], .string (S gap)] w (Told w (.returned (.string (S (Req.text gap ⟨m, t, l, b⟩))))) := by
  have hb0 := below_alloc w (.cells #[.string (S m), .string (S t), .slice A l.length cap, .string (S b)] 33)
  have B0 := BlkR.new w m t b (.slice A l.length cap)
  have hz0 : w.heap.size < (w.alloc (.cells #[.string (S m), .string (S t), .slice A l.length cap, .string (S b)] 33)).heap.size := by simp
  have p0 := hl.next hb0
  have HF := Lib.hid hf
  have f1 := hf.m
  have f2 := hf.t
  have f3 := hf.b
  have f4 := hf.n
  have HTX := Lib.hid (show Req.text gap ⟨m, t, l, b⟩ = m ++ [32] ++ t ++ [32, 72, 84, 84, 80, 47, 49, 46, 49, 13, 10] ++ Req.headText gap l ++ [13, 10] ++ b by simp [Req.text, Req.top, Req.version])
  clear hf hl
  have a1 : ∀ w'' : World, (Op.stringOp .add (S m) ⟨#[32]⟩).run Tryd.prog w'' = .ok (.string (S (m ++ [32]))) w'' := fun w'' => run_add_S w'' m [32] (by simp; omega)
  obtain ⟨x1, hx1⟩ : ∃ x, x = m ++ [32] := ⟨_, rfl⟩
  have hl1 : x1.length = m.length + 1 := by rw [hx1]; simp
  rw [← hx1] at a1 HTX
  have a2 : ∀ w'' : World, (Op.stringOp .add (S x1) (S t)).run Tryd.prog w'' = .ok (.string (S (x1 ++ t))) w'' := fun w'' => run_add_S w'' x1 t (by omega)
  obtain ⟨x2, hx2⟩ : ∃ x, x = x1 ++ t := ⟨_, rfl⟩
  have hxl2 : x2.length = m.length + 1 + t.length := by rw [hx2]; simp; omega
  rw [← hx2] at a2 HTX
  have a3 : ∀ w'' : World, (Op.stringOp .add (S x2) ⟨#[32, 72, 84, 84, 80, 47, 49, 46, 49, 13, 10]⟩).run Tryd.prog w'' = .ok (.string (S (x2 ++ [32, 72, 84, 84, 80, 47, 49, 46, 49, 13, 10]))) w'' := fun w'' => run_add_S w'' x2 [32, 72, 84, 84, 80, 47, 49, 46, 49, 13, 10] (by simp; omega)
  obtain ⟨x3, hx3⟩ : ∃ x, x = x2 ++ [32, 72, 84, 84, 80, 47, 49, 46, 49, 13, 10] := ⟨_, rfl⟩
  have hxl3 : x3.length ≤ 10020 := by rw [hx3]; simp; omega
  rw [← hx3] at a3 HTX
  clear hx1 hx2 hx3
  generalize hW : w.alloc (.cells #[.string (S m), .string (S t), .slice A l.length cap, .string (S b)] 33) = w0 at hb0 B0 p0 hz0
  have c0 := B0.c0
  have c1 := B0.c1
  have c2 := B0.c2
  go_enter Tryd.func62, Tryd.ntmps62
  go_wp2
  go_loopw [5, 6] (fun v i wr => ∃ (k : Nat) (acc : List UInt8), k ≤ l.length ∧ i = .int .i64 k ∧ v = .string (S acc) ∧ acc = x3 ++ Req.headText gap (l.take k) ∧ Below w0.heap.size w0 wr) (fun _ i _ => l.length - (intOf i).toNat)
  case atStart => exact ⟨0, x3, Nat.zero_le _, rfl, rfl, by simp [Req.headText], Below.refl _ _⟩
  case round =>
    obtain ⟨k, acc, hk, rfl, rfl, hacc, hb⟩ := hrel
    have hal : acc.length ≤ 600000 := by
      have := headText_len5 HF.out hg k hk
      rw [hacc, List.length_append]
      omega
    have HACC := Lib.hid hacc
    clear hacc c0 c1 c2 a1 a2 a3
    have Br := B0.below hb hz0
    have d2 := Br.c2
    by_cases hlt : k < l.length
    · obtain ⟨ab, off, hA, hbb, hcl⟩ := p0 (by omega)
      obtain ⟨e0', e1'⟩ := hcl k hlt
      have hql := HF.out.q k hlt
      clear hcl
      have HTK := Lib.hid (List.take_succ_eq_append_getElem hlt)
      obtain ⟨x, hx⟩ : ∃ x, x = l[k].1 := ⟨_, rfl⟩
      obtain ⟨y, hy⟩ : ∃ y, y = l[k].2 := ⟨_, rfl⟩
      rw [← hx] at e0' hql
      rw [← hy] at e1' hql
      have HX := Lib.hid (show l[k] = (x, y) by rw [hx, hy])
      clear hx hy
      have d0 : wr.cell? ⟨ab, off + k * 2, none⟩ = some (.string (S x)) := (hb.cell (p := ⟨ab, off + k * 2, none⟩) hbb).trans e0'
      have d1 : wr.cell? ⟨ab, off + k * 2 + 1, none⟩ = some (.string (S y)) := (hb.cell (p := ⟨ab, off + k * 2 + 1, none⟩) hbb).trans e1'
      clear e0' e1'
      have i0 : (0 : Int) ≤ (k : Int) := by omega
      have i1 : (k : Int) < (l.length : Int) := by omega
      have HN := Lib.hid (show x3 ++ Req.headText gap (l.take (k + 1)) = acc ++ x ++ [58] ++ gap ++ y ++ [13, 10] by
        rw [HTK.out, Req.headText_snoc, HX.out, HACC.out]
        simp [Req.hline])
      have q1 : ∀ w'' : World, (Op.stringOp .add (S acc) (S x)).run Tryd.prog w'' = .ok (.string (S (acc ++ x))) w'' := fun w'' => run_add_S w'' acc x (by omega)
      obtain ⟨y1, hy1⟩ : ∃ z, z = acc ++ x := ⟨_, rfl⟩
      have hyl1 : y1.length ≤ 605000 := by rw [hy1]; simp; omega
      rw [← hy1] at q1 HN
      have q2 : ∀ w'' : World, (Op.stringOp .add (S y1) ⟨#[58]⟩).run Tryd.prog w'' = .ok (.string (S (y1 ++ [58]))) w'' := fun w'' => run_add_S w'' y1 [58] (by simp; omega)
      obtain ⟨y2, hy2⟩ : ∃ z, z = y1 ++ [58] := ⟨_, rfl⟩
      have hyl2 : y2.length ≤ 605001 := by rw [hy2]; simp; omega
      rw [← hy2] at q2 HN
      have q3 : ∀ w'' : World, (Op.stringOp .add (S y2) (S gap)).run Tryd.prog w'' = .ok (.string (S (y2 ++ gap))) w'' := fun w'' => run_add_S w'' y2 gap (by omega)
      obtain ⟨y3, hy3⟩ : ∃ z, z = y2 ++ gap := ⟨_, rfl⟩
      have hyl3 : y3.length ≤ 605011 := by rw [hy3]; simp; omega
      rw [← hy3] at q3 HN
      have q4 : ∀ w'' : World, (Op.stringOp .add (S y3) (S y)).run Tryd.prog w'' = .ok (.string (S (y3 ++ y))) w'' := fun w'' => run_add_S w'' y3 y (by omega)
      obtain ⟨y4, hy4⟩ : ∃ z, z = y3 ++ y := ⟨_, rfl⟩
      have hyl4 : y4.length ≤ 610011 := by rw [hy4]; simp; omega
      rw [← hy4] at q4 HN
      have q5 : ∀ w'' : World, (Op.stringOp .add (S y4) ⟨#[13, 10]⟩).run Tryd.prog w'' = .ok (.string (S (y4 ++ [13, 10]))) w'' := fun w'' => run_add_S w'' y4 [13, 10] (by simp; omega)
      obtain ⟨y5, hy5⟩ : ∃ z, z = y4 ++ [13, 10] := ⟨_, rfl⟩
      rw [← hy5] at q5 HN
      clear hy1 hy2 hy3 hy4 hy5
      subst hA
      go_wp2
      go_quiet (fail)
      go_wp2
      go_roundw
      case rel => exact ⟨k + 1, y5, by omega, by go_num, rfl, HN.out.symm, below_drewN hb _⟩
      case measure => simp [intOf]; omega
    · have HE := Lib.hid (show Req.text gap ⟨m, t, l, b⟩ = acc ++ [13, 10] ++ b by
        have h1 := HACC.out
        rw [List.take_of_length_le (by omega)] at h1
        rw [HTX.out, h1])
      have d3 := Br.c3
      have q1 : ∀ w'' : World, (Op.stringOp .add (S acc) ⟨#[13, 10]⟩).run Tryd.prog w'' = .ok (.string (S (acc ++ [13, 10]))) w'' := fun w'' => run_add_S w'' acc [13, 10] (by simp; omega)
      obtain ⟨y1, hy1⟩ : ∃ z, z = acc ++ [13, 10] := ⟨_, rfl⟩
      have hyl1 : y1.length ≤ 600002 := by rw [hy1]; simp; omega
      rw [← hy1] at q1 HE
      have q2 : ∀ w'' : World, (Op.stringOp .add (S y1) (S b)).run Tryd.prog w'' = .ok (.string (S (y1 ++ b))) w'' := fun w'' => run_add_S w'' y1 b (by omega)
      clear hy1
      go_wp2
      go_ret
      exact ⟨by rw [HE.out]; rfl, below_step hb0 hb⟩
end Go.Proofs.YtbpeohadgplaaaaDoor
