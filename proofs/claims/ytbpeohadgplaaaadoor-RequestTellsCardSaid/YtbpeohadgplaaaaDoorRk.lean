/- What package request's fewest and Right answer, for any request of at most 50 headers and texts of at most 5000 bytes. -/
import Derived.Test.YtbpeohadgplaaaaDoorRh
import Derived.Test.YtbpeohadgplaaaaDoorReqWrite
namespace Go.Proofs.YtbpeohadgplaaaaDoor
set_option maxRecDepth 8000
open Go.RowKit

/-- How great the requests are that are looked at. -/
structure FewR (m t : List UInt8) (l : List Pct.PairL) (b : List UInt8) : Prop where
  m : m.length ≤ 5000
  t : t.length ≤ 5000
  b : b.length ≤ 5000
  n : l.length ≤ 50
  q : ∀ k (h : k < l.length), l[k].1.length ≤ 5000 ∧ l[k].2.length ≤ 5000

theorem sumH_take {l : List Pct.PairL} (hq : ∀ k (h : k < l.length), l[k].1.length ≤ 5000 ∧ l[k].2.length ≤ 5000) : ∀ k, k ≤ l.length → Req.sumH (l.take k) ≤ 10003 * k
  | 0, _ => by simp [Req.sumH]
  | k + 1, hk => by
    have ih := sumH_take hq k (by omega)
    have h2 := hq k (by omega)
    rw [List.take_succ_eq_append_getElem (by omega), Req.sumH_snoc]
    omega

set_option maxHeartbeats 400000 in
theorem fewest_any (m t : List UInt8) (A : Option Addr) (cap : Nat) (l : List Pct.PairL) (b : List UInt8) (w : World) (hl : PCells w w.heap.size A l) (hf : FewR m t l b) :
    Calls Tryd.prog 59 #[.agg #[.string (S m), .string (S t), .slice A l.length cap, .string (S b)]] w (Told w (.returned (.int .i64 (Req.fewest ⟨m, t, l, b⟩ : Int)))) := by
  obtain ⟨f1, f2, f3, f4, hq⟩ := hf
  have HS := Lib.hid (sumH_take hq)
  have HQ := Lib.hid hq
  have hzm : (S m).size = m.length := rfl
  have hzt : (S t).size = t.length := rfl
  have hzb : (S b).size = b.length := rfl
  obtain ⟨n0, hn0⟩ : ∃ n0, n0 = m.length + t.length + 14 + b.length := ⟨_, rfl⟩
  have HN0 := Lib.hid (show Req.fewest ⟨m, t, l, b⟩ = n0 + Req.sumH l by unfold Req.fewest; rw [hn0])
  have hb0 : n0 ≤ 15014 := by omega
  have HE := Lib.hid (show (n0 : Int) = ((S m).size : Int) + ((S t).size : Int) + 14 + ((S b).size : Int) by rw [hn0, hzm, hzt, hzb]; omega)
  clear hq hn0
  have hm1 : (S m).size ≤ 5000 := f1
  have hm2 : (S t).size ≤ 5000 := f2
  have hm3 : (S b).size ≤ 5000 := f3
  clear hzm hzt hzb
  go_enter Tryd.func59, Tryd.ntmps59
  go_wp2
  go_loopw [3, 21] (fun v i wr => ∃ k n : Nat, k ≤ l.length ∧ i = .int .i64 k ∧ v = .int .i64 n ∧ n = n0 + Req.sumH (l.take k) ∧ Below w.heap.size w wr) (fun _ i _ => l.length - (intOf i).toNat)
  case atStart => exact ⟨0, n0, Nat.zero_le _, rfl, congrArg (Value.int .i64) HE.out.symm, by simp [Req.sumH], (Below.refl _ _).alloc (Nat.le_refl _) _⟩
  case round =>
    obtain ⟨k, n, hk, rfl, rfl, hn, hb⟩ := hrel
    have hsum := HS.out k hk
    have hn2 : n ≤ 600000 := by rw [hn]; omega
    have HN := Lib.hid hn
    clear hn hsum
    by_cases hlt : k < l.length
    · obtain ⟨ab, off, rfl, hbb, hcl⟩ := hl (by omega)
      obtain ⟨c0', c1'⟩ := hcl k hlt
      have hql := HQ.out k hlt
      clear hcl
      have HTK := Lib.hid (List.take_succ_eq_append_getElem hlt)
      obtain ⟨x, hx⟩ : ∃ x, x = l[k].1 := ⟨_, rfl⟩
      obtain ⟨y, hy⟩ : ∃ y, y = l[k].2 := ⟨_, rfl⟩
      rw [← hx] at c0' hql
      rw [← hy] at c1' hql
      have HX := Lib.hid hx
      have HY := Lib.hid hy
      clear hx hy
      have hx5 : (S x).size ≤ 5000 := hql.1
      have hy5 : (S y).size ≤ 5000 := hql.2
      clear hql
      have HZX := Lib.hid (show (S x).size = x.length from rfl)
      have HZY := Lib.hid (show (S y).size = y.length from rfl)
      have c0 : wr.cell? ⟨ab, off + k * 2, none⟩ = some (.string (S x)) := (hb.cell (p := ⟨ab, off + k * 2, none⟩) hbb).trans c0'
      have c1 : wr.cell? ⟨ab, off + k * 2 + 1, none⟩ = some (.string (S y)) := (hb.cell (p := ⟨ab, off + k * 2 + 1, none⟩) hbb).trans c1'
      clear c0' c1'
      have i0 : (0 : Int) ≤ (k : Int) := by omega
      have i1 : (k : Int) < (l.length : Int) := by omega
      go_wp2
      go_roundw
      case rel => exact ⟨k + 1, n + (x.length + y.length + 3), by omega, by go_num, congrArg (Value.int .i64) (by have h1 := HZX.out; have h2 := HZY.out; omega), by rw [HTK.out, Req.sumH_snoc, HN.out, HX.out, HY.out]; omega, hb.alloc hb.size _⟩
      case measure => simp [intOf]; omega
    · have HT := Lib.hid (show Req.fewest ⟨m, t, l, b⟩ = n by rw [HN0.out, HN.out, List.take_of_length_le (by omega)])
      go_wp2
      go_ret
      exact ⟨by rw [HT.out]; rfl, hb⟩

theorem right_1 {m t b : List UInt8} {l : List Pct.PairL} (h : 32 < l.length) : Req.right ⟨m, t, l, b⟩ = false := by
  unfold Req.right
  rw [decide_eq_false (p := l.length ≤ 32) (by omega)]
  rfl
section
variable {m t b : List UInt8} {l : List Pct.PairL}
theorem right_2 (h : 4096 < Req.fewest ⟨m, t, l, b⟩) : Req.right ⟨m, t, l, b⟩ = false := by
  unfold Req.right
  rw [decide_eq_false (p := Req.fewest ⟨m, t, l, b⟩ ≤ 4096) (by omega), Bool.and_false]
  rfl
theorem right_3 (h : Req.known m = false) : Req.right ⟨m, t, l, b⟩ = false := by
  unfold Req.right
  simp only [h, Bool.and_false, Bool.false_and]
theorem right_4 (h : Req.isTarget t = false) : Req.right ⟨m, t, l, b⟩ = false := by
  unfold Req.right
  simp only [h, Bool.and_false, Bool.false_and]
theorem right_5 (h : l.all Req.headOk = false) : Req.right ⟨m, t, l, b⟩ = false := by
  unfold Req.right
  simp only [h, Bool.and_false, Bool.false_and]
theorem right_6 (h1 : ¬ 32 < l.length) (h2 : ¬ 4096 < Req.fewest ⟨m, t, l, b⟩) (h3 : Req.known m = true) (h4 : Req.isTarget t = true) (h5 : l.all Req.headOk = true) : Req.right ⟨m, t, l, b⟩ = (Req.bodyLen l == some b.length) := by
  unfold Req.right
  simp only [h3, h4, h5, decide_eq_true (p := l.length ≤ 32) (by omega), decide_eq_true (p := Req.fewest ⟨m, t, l, b⟩ ≤ 4096) (by omega), Bool.and_true, Bool.true_and]
end
theorem all_badL {l : List Pct.PairL} {p : Pct.PairL → Bool} {k : Nat} (hk : k < l.length) (h : p l[k] = false) : l.all p = false :=
  List.all_eq_false.2 ⟨l[k], List.getElem_mem hk, by rw [h]; simp⟩
theorem all_getL {l : List Pct.PairL} {p : Pct.PairL → Bool} (h : ∀ j (hj : j < l.length), p l[j] = true) : l.all p = true :=
  List.all_eq_true.2 fun x hx => by
    obtain ⟨j, hj, rfl⟩ := List.getElem_of_mem hx
    exact h j hj

set_option maxHeartbeats 1600000 in
theorem right_any (m t : List UInt8) (A : Option Addr) (cap : Nat) (l : List Pct.PairL) (b : List UInt8) (w : World) (hl : PCells w w.heap.size A l) (hf : FewR m t l b) :
    Calls Tryd.prog 27 #[.agg #[.string (S m), .string (S t), .slice A l.length cap, .string (S b)]] w (Told w (.returned (.bool (Req.right ⟨m, t, l, b⟩)))) := by
  have hb0 := below_alloc w (.cells #[.string (S m), .string (S t), .slice A l.length cap, .string (S b)] 33)
  have B0 := BlkR.new w m t b (.slice A l.length cap)
  have hz0 : w.heap.size < (w.alloc (.cells #[.string (S m), .string (S t), .slice A l.length cap, .string (S b)] 33)).heap.size := by simp
  have hl0 := hl.next hb0
  have HF := Lib.hid hf
  have hn50 := hf.n
  clear hf
  generalize hW : w.alloc (.cells #[.string (S m), .string (S t), .slice A l.length cap, .string (S b)] 33) = w0 at hb0 B0 hl0 hz0
  by_cases h32 : 32 < l.length
  · have HR := Lib.hid (right_1 (m := m) (t := t) (b := b) h32)
    have h32' : (32 : Int) < (l.length : Int) := by omega
    have c2 := B0.c2
    go_enter Tryd.func27, Tryd.ntmps27
    go_wp2
    go_ret
    exact ⟨by rw [HR.out]; rfl, hb0⟩
  · have h32' : ¬ (32 : Int) < (l.length : Int) := by omega
    have c0 := B0.c0
    have c1 := B0.c1
    have c2 := B0.c2
    have c3 := B0.c3
    go_enter Tryd.func27, Tryd.ntmps27
    go_wp2_with fail
    refine (fewest_any m t A cap l b w0 hl0 HF.out).mono ?_
    rintro e w1 ⟨rfl, hb1⟩
    have B1 := B0.below hb1 hz0
    have hz1 := Nat.lt_of_lt_of_le hz0 hb1.size
    have hl1 := hl0.next hb1
    have hb1' := below_step hb0 hb1
    clear c0 c1 c2 c3 hb0 hb1 B0 hz0 hl0 hW hl
    have HR2 := Lib.hid (fun h => right_2 (m := m) (t := t) (b := b) (l := l) h)
    have HR6 := Lib.hid (fun h => right_6 (m := m) (t := t) (b := b) (l := l) h32 h)
    obtain ⟨n, hn⟩ : ∃ n, n = Req.fewest ⟨m, t, l, b⟩ := ⟨_, rfl⟩
    rw [← hn] at HR2 HR6 ⊢
    clear hn
    have c0 := B1.c0
    have c1 := B1.c1
    have c2 := B1.c2
    have c3 := B1.c3
    by_cases hn4 : 4096 < n
    · have HR := Lib.hid (HR2.out hn4)
      have hn4' : (4096 : Int) < (n : Int) := by omega
      go_wp2
      go_ret
      exact ⟨by rw [HR.out]; rfl, hb1'⟩
    · have hn4' : ¬ (4096 : Int) < (n : Int) := by omega
      have hK := fun w' => isKnown_any m w'
      have hT := fun w' => isTarget_any t w' (by have := HF.out.t; omega)
      cases hk : Req.known m with
      | false =>
        have HR := Lib.hid (right_3 (t := t) (b := b) (l := l) hk)
        rw [hk] at hK
        clear hk
        go_wp2_with (go_at_call 65; refine (hK _).mono ?_; rintro e w' ⟨rfl, rfl⟩)
        go_ret
        exact ⟨by rw [HR.out]; rfl, hb1'⟩
      | true =>
        rw [hk] at hK
        cases ht : Req.isTarget t with
        | false =>
          have HR := Lib.hid (right_4 (m := m) (b := b) (l := l) ht)
          rw [ht] at hT
          clear hk ht
          go_wp2_with (first
            | (go_at_call 65; refine (hK _).mono ?_; rintro e w' ⟨rfl, rfl⟩)
            | (go_at_call 66; refine (hT _).mono ?_; rintro e w' ⟨rfl, rfl⟩))
          go_ret
          exact ⟨by rw [HR.out]; rfl, hb1'⟩
        | true =>
          rw [ht] at hT
          have HR6' := Lib.hid (HR6.out hn4 hk ht)
          have HR5 := Lib.hid (fun h => right_5 (m := m) (t := t) (b := b) (l := l) h)
          clear hk ht HR6 HR2
          go_wp2_with (first
            | (go_at_call 65; refine (hK _).mono ?_; rintro e w' ⟨rfl, rfl⟩)
            | (go_at_call 66; refine (hT _).mono ?_; rintro e w' ⟨rfl, rfl⟩))
          clear c0 c1 c2 c3
          go_loopw [29] (fun i wr => ∃ k : Nat, k ≤ l.length ∧ i = .int .i64 k ∧ (∀ j (hj : j < l.length), j < k → Req.headOk l[j] = true) ∧ Below w1.heap.size w1 wr) (fun i _ => l.length - (intOf i).toNat)
          case atStart => exact ⟨0, Nat.zero_le _, rfl, fun j _ hj => absurd hj (by omega), Below.refl _ _⟩
          case round =>
            obtain ⟨k, hk, rfl, hall, hb⟩ := hrel
            have HALL := Lib.hid hall
            clear hall
            by_cases hlt : k < l.length
            · obtain ⟨ab, off, rfl, hbb, hcl⟩ := hl1 (by omega)
              obtain ⟨c0', c1'⟩ := hcl k hlt
              have hql := HF.out.q k hlt
              clear hcl
              have HOK := Lib.hid (show Req.headOk l[k] = (Req.token l[k].1 && Req.isText l[k].2) from rfl)
              have HBAD := Lib.hid (show Req.headOk l[k] = false → Req.right ⟨m, t, l, b⟩ = false from fun h => HR5.out (all_badL hlt h))
              obtain ⟨x, hx⟩ : ∃ x, x = l[k].1 := ⟨_, rfl⟩
              obtain ⟨y, hy⟩ : ∃ y, y = l[k].2 := ⟨_, rfl⟩
              rw [← hx] at c0' hql HOK
              rw [← hy] at c1' hql HOK
              clear hx hy
              have c0 : wr.cell? ⟨ab, off + k * 2, none⟩ = some (.string (S x)) := (hb.cell (p := ⟨ab, off + k * 2, none⟩) hbb).trans c0'
              have c1 : wr.cell? ⟨ab, off + k * 2 + 1, none⟩ = some (.string (S y)) := (hb.cell (p := ⟨ab, off + k * 2 + 1, none⟩) hbb).trans c1'
              clear c0' c1'
              have i0 : (0 : Int) ≤ (k : Int) := by omega
              have i1 : (k : Int) < (l.length : Int) := by omega
              have hTok := fun w' => isToken_any x w' (by omega)
              have hTxt := fun w' => isText_any y w' (by omega)
              clear hql
              cases hx : Req.token x with
              | false =>
                have HR := Lib.hid (HBAD.out (by rw [HOK.out, hx]; rfl))
                rw [hx] at hTok
                clear hx
                go_wp2_with (go_at_call 67; refine (hTok _).mono ?_; rintro e w' ⟨rfl, rfl⟩)
                go_ret
                exact ⟨by rw [HR.out]; rfl, below_step hb1' (hb.alloc hb.size _)⟩
              | true =>
                rw [hx] at hTok
                cases hy : Req.isText y with
                | false =>
                  have HR := Lib.hid (HBAD.out (by rw [HOK.out, hx, hy]; rfl))
                  rw [hy] at hTxt
                  clear hx hy
                  go_wp2_with (first
                    | (go_at_call 67; refine (hTok _).mono ?_; rintro e w' ⟨rfl, rfl⟩)
                    | (go_at_call 68; refine (hTxt _).mono ?_; rintro e w2 ⟨rfl, hb2⟩))
                  go_ret
                  exact ⟨by rw [HR.out]; rfl, below_step hb1' ((hb.alloc hb.size _).trans (hb2.mono (by have := hb.size; simp; omega)))⟩
                | true =>
                  have HT := Lib.hid (show Req.headOk l[k] = true by rw [HOK.out, hx, hy]; rfl)
                  rw [hy] at hTxt
                  clear hx hy
                  go_wp2_with (first
                    | (go_at_call 67; refine (hTok _).mono ?_; rintro e w' ⟨rfl, rfl⟩)
                    | (go_at_call 68; refine (hTxt _).mono ?_; rintro e w2 ⟨rfl, hb2⟩))
                  go_roundw
                  case rel =>
                    refine ⟨k + 1, by omega, by go_num, fun j hj hjk => ?_, (hb.alloc hb.size _).trans (hb2.mono (by have := hb.size; simp; omega))⟩
                    by_cases e : j = k
                    · subst e; exact HT.out
                    · exact HALL.out j hj (by omega)
                  case measure => simp [intOf]; omega
            · have HR := Lib.hid (HR6'.out (all_getL fun j hj => HALL.out j hj (by omega)))
              have B2 := B1.below hb hz1
              have hl2 := hl1.next hb
              have hb2 := below_step hb1' hb
              have hz2 := Nat.lt_of_lt_of_le hz1 hb.size
              have c0 := B2.c0
              have c1 := B2.c1
              have c2 := B2.c2
              have c3 := B2.c3
              go_wp2_with fail
              refine (bodyLength_any m t A cap l b wr hl2 (by omega) (fun k h => by have := (HF.out.q k h).1; omega) (by
                have := hdrV_len (N := 5000) Req.cl l (fun q hq => by
                  obtain ⟨j, hj, rfl⟩ := List.getElem_of_mem hq
                  exact (HF.out.q j hj).2)
                omega)).mono ?_
              rintro e w3 ⟨rfl, hb3⟩
              have B3 := B2.below hb3 hz2
              have hb3' := below_step hb2 hb3
              clear c0 c1 c2 c3
              have c3 := B3.c3
              cases hbl : Req.bodyLen l with
              | none =>
                have HR' := Lib.hid (show Req.right ⟨m, t, l, b⟩ = false by rw [HR.out, hbl]; rfl)
                clear hbl
                unfold numRes
                go_wp2
                go_ret
                exact ⟨by rw [HR'.out]; rfl, hb3'⟩
              | some n2 =>
                have HR' := Lib.hid (show Req.right ⟨m, t, l, b⟩ = decide (n2 = b.length) by
                  rw [HR.out, hbl, Bool.eq_iff_iff]
                  simp)
                clear hbl
                unfold numRes
                have hbz : (S b).size = b.length := rfl
                by_cases he : n2 = b.length
                · have he1 : ((n2 : Int) == ((S b).size : Int)) = true := beq_iff_eq.2 (by omega)
                  have HR'' := Lib.hid (show Req.right ⟨m, t, l, b⟩ = true by rw [HR'.out, decide_eq_true he])
                  clear he hbz
                  go_wp2
                  go_ret
                  exact ⟨by rw [HR''.out]; rfl, hb3'⟩
                · have he1 : ((n2 : Int) == ((S b).size : Int)) = false := beq_eq_false_iff_ne.2 (by omega)
                  have HR'' := Lib.hid (show Req.right ⟨m, t, l, b⟩ = false by rw [HR'.out, decide_eq_false he])
                  clear he hbz
                  go_wp2
                  go_ret
                  exact ⟨by rw [HR''.out]; rfl, hb3'⟩
end Go.Proofs.YtbpeohadgplaaaaDoor
