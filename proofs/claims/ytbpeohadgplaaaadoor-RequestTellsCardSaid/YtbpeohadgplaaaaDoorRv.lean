/- What the document's own Write and Args of requests answer, for any request that is looked at. -/
import Derived.Test.YtbpeohadgplaaaaDoorRu
import Derived.Test.YtbpeohadgplaaaaDoorRefF
namespace Go.Proofs.YtbpeohadgplaaaaDoor
set_option maxRecDepth 8000
open Go.RowKit

theorem refRight_any (m t : List UInt8) (A : Option Addr) (cap : Nat) (l : List Pct.PairL) (b : List UInt8) (w : World) (he : EnvR w) (hl : PCells w w.heap.size A l) (hf : FewR m t l b) (hmt : m.length + t.length ≤ 4000) :
    Calls Tryd.prog 28 #[.agg #[.string (S m), .string (S t), .slice A l.length cap, .string (S b)]] w (Told w (.returned (.bool (Req.right ⟨m, t, l, b⟩)))) := by
  cases h : (Req.known m && Req.isTarget t) with
  | true => exact refRight_yes m t A cap l b w he hl hf hmt h
  | false =>
    rw [right_34 h]
    exact refRight_no m t A cap l b w he hl hmt h

set_option maxHeartbeats 800000 in
theorem refWriteR_any (m t : List UInt8) (A : Option Addr) (cap : Nat) (l : List Pct.PairL) (b : List UInt8) (w : World) (he : EnvR w) (hl : PCells w w.heap.size A l) (hf : FewR m t l b) (hmt : m.length + t.length ≤ 4000) :
    Calls Tryd.prog 21 #[.agg #[.string (S m), .string (S t), .slice A l.length cap, .string (S b)]] w (Told w (wrRes (Req.write ⟨m, t, l, b⟩))) := by
  have h0 := HasR.new (m := m) (t := t) (b := b) (cap := cap) hl
  have hb0 := below_alloc w (.cells #[.string (S m), .string (S t), .slice A l.length cap, .string (S b)] 33)
  have he0 := he.next hb0
  have HF := Lib.hid hf
  clear hf
  generalize hW : w.alloc (.cells #[.string (S m), .string (S t), .slice A l.length cap, .string (S b)] 33) = w0 at h0 hb0 he0
  obtain ⟨c0, c1, c2, c3⟩ := h0.cells
  go_enter Tryd.func21, Tryd.ntmps21
  go_wp2_with fail
  refine (refRight_any m t A cap l b w0 he0 h0.row HF.out hmt).mono ?_
  rintro e w1 ⟨rfl, hb1⟩
  have h1 := h0.next hb1
  have hb1' := below_step hb0 hb1
  clear c0 c1 c2 c3 h0 hb1 hW
  obtain ⟨c0, c1, c2, c3⟩ := h1.cells
  cases hr : Req.right ⟨m, t, l, b⟩ with
  | false =>
    have HR := Lib.hid (write_1 hr)
    clear hr
    go_wp2
    go_ret2
    exact ⟨by rw [HR.out]; rfl, hb1'⟩
  | true =>
    have HR2 := Lib.hid (write_2 hr)
    have HR3 := Lib.hid (write_3 hr)
    have HTL := Lib.hid (show (Req.text [32] ⟨m, t, l, b⟩).length = Req.fewest ⟨m, t, l, b⟩ + l.length by rw [Req.text_len]; simp)
    clear hr
    go_wp2_with fail
    refine (refText_1 m t A cap l b w1 h1.row HF.out).mono ?_
    rintro e w2 ⟨rfl, hb2⟩
    have hb2' := below_step hb1' hb2
    obtain ⟨tx, htx⟩ : ∃ tx, tx = Req.text [32] ⟨m, t, l, b⟩ := ⟨_, rfl⟩
    rw [← htx] at HTL HR3 ⊢
    clear htx
    have htz : (S tx).size = tx.length := rfl
    by_cases hlong : 4096 < Req.fewest ⟨m, t, l, b⟩ + l.length
    · have HR := Lib.hid (HR2.out hlong)
      have hl' : 4096 < (S tx).size := by rw [htz, HTL.out]; exact hlong
      clear hlong htz
      go_wp2
      go_ret2
      exact ⟨by rw [HR.out]; rfl, hb2'⟩
    · have HR := Lib.hid (HR3.out hlong)
      have hl' : ¬ 4096 < (S tx).size := by rw [htz, HTL.out]; exact hlong
      clear hlong htz
      go_wp2
      go_ret2
      exact ⟨by rw [HR.out]; rfl, hb2'⟩

theorem refForm_ok (l : List UInt8) (x : List Pct.PairL) (w : World) (hs : l.length ≤ 1000) (h : Pct.form l = .ok x) :
    Calls Tryd.prog 64 #[.string (S l)] w fun e w' => ∃ v, e = .returned (.tuple #[v, .int .i64 0]) ∧ PRow w.heap.size w' v x ∧ Below w.heap.size w w' :=
  (refForm_any (S l) w hs).mono fun e w' hp => by
    have h' : Pct.form (S l).data.toList = .ok x := h
    rw [h'] at hp
    exact hp
theorem refForm_error (l : List UInt8) (n : Nat) (w : World) (hs : l.length ≤ 1000) (h : Pct.form l = .error n) :
    Calls Tryd.prog 64 #[.string (S l)] w fun e w' => e = .returned (.tuple #[.slice none 0 0, .int .i64 n]) ∧ Below w.heap.size w w' :=
  (refForm_any (S l) w hs).mono fun e w' hp => by
    have h' : Pct.form (S l).data.toList = .error n := h
    rw [h'] at hp
    exact hp

/-- What the document's Args hands back: pairs that read. -/
def ArgsPost (w : World) (r : Except Nat (List Pct.PairL)) (e : Ending) (w' : World) : Prop :=
  match r with
  | .ok l => ∃ A cap, e = .returned (.tuple #[.slice A l.length cap, .int .i64 0]) ∧ PCells w' w'.heap.size A l ∧ Below w.heap.size w w'
  | .error n => e = .returned (.tuple #[.slice none 0 0, .int .i64 n]) ∧ Below w.heap.size w w'
theorem argsPost_ok {w w' : World} {r : Except Nat (List Pct.PairL)} {l : List Pct.PairL} {A : Option Addr} {cap : Nat} (h : r = .ok l) (hc : PCells w' w'.heap.size A l) (hb : Below w.heap.size w w') : ArgsPost w r (.returned (.tuple #[.slice A l.length cap, .int .i64 0])) w' := by rw [h]; exact ⟨A, cap, rfl, hc, hb⟩
theorem argsPost_err {w w' : World} {r : Except Nat (List Pct.PairL)} {n : Nat} (h : r = .error n) (hb : Below w.heap.size w w') : ArgsPost w r (.returned (.tuple #[.slice none 0 0, .int .i64 n])) w' := by rw [h]; exact ⟨rfl, hb⟩
theorem prow_pcells {base : Nat} {w : World} {A : Option Addr} {cap : Nat} {l : List Pct.PairL} (h : PRow base w (.slice A l.length cap) l) : PCells w w.heap.size A l := by
  obtain ⟨A', cap', e, hp⟩ := h.reads
  cases e
  exact hp

set_option maxHeartbeats 1600000 in
theorem refArgs_any (m t : List UInt8) (A : Option Addr) (n cap : Nat) (b : List UInt8) (w : World) (hs : t.length ≤ 1000) (hbl : b.length ≤ 1000) :
    Calls Tryd.prog 23 #[.agg #[.string (S m), .string (S t), .slice A n cap, .string (S b)]] w (ArgsPost w (argsP m t b)) := by
  obtain ⟨x, y, f, hcut⟩ : ∃ x y f, Pct.cutAt 63 t = (x, y, f) := ⟨_, _, _, rfl⟩
  have hlen := cutAt_len 63 t
  rw [hcut] at hlen
  have hly : y.length ≤ 1000 := by simp only at hlen; omega
  have hPt := fun w' => refPath_any m t A n cap b w' (by omega)
  rw [hcut] at hPt
  have HC := Lib.hid hcut
  clear hcut hlen
  have hS := S_list
  have hb0 := below_alloc w (.cells #[.string (S m), .string (S t), .slice A n cap, .string (S b)] 33)
  have B0 := BlkR.new w m t b (.slice A n cap)
  have hz0 : w.heap.size < (w.alloc (.cells #[.string (S m), .string (S t), .slice A n cap, .string (S b)] 33)).heap.size := by simp
  generalize hW : w.alloc (.cells #[.string (S m), .string (S t), .slice A n cap, .string (S b)] 33) = w0 at hb0 B0 hz0
  have d0 := B0.c0
  have d1 := B0.c1
  have d2 := B0.c2
  have d3 := B0.c3
  go_enter Tryd.func23, Tryd.ntmps23
  go_wp2_with fail
  refine (hPt w0).mono ?_
  rintro e w1 ⟨rfl, hb1⟩
  have B1 := B0.below hb1 hz0
  have hz1 := Nat.lt_of_lt_of_le hz0 hb1.size
  have hb1' := below_step hb0 hb1
  clear d0 d1 d2 d3 hb1 B0 hz0 hW hb0 hPt
  cases hf : Pct.form y with
  | error k =>
    have HR := Lib.hid (args_1 (m := m) (b := b) HC.out hf)
    have hk0 : k ≠ 0 := by rcases form_errs _ _ _ hf with h | h <;> omega
    have ek : ((k : Int) != 0) = true := by simp; omega
    have HF := Lib.hid hf
    clear hf
    go_wp2_with fail
    refine (refForm_error y k w1 hly HF.out).mono ?_
    rintro e w2 ⟨rfl, hb2⟩
    go_wp2
    go_ret2
    exact argsPost_err HR.out (below_step hb1' hb2)
  | ok l =>
    have HF := Lib.hid hf
    have hll := form_len hf
    clear hf
    go_wp2_with fail
    refine (refForm_ok y l w1 hly HF.out).mono ?_
    rintro e w2 ⟨v2, rfl, hr2, hb2⟩
    obtain ⟨A2, cap2, rfl⟩ := hr2.form
    have p2 := prow_pcells hr2
    have hb2' := below_step hb1' hb2
    have B2 := B1.below hb2 hz1
    have hz2 := Nat.lt_of_lt_of_le hz1 hb2.size
    clear hr2 hb2 B1 hz1 hb1'
    have d0 := B2.c0
    have d3 := B2.c3
    by_cases hm : m = Req.post
    · subst hm
      have em : ((S Req.post).toList != [80, 79, 83, 84]) = false := by rw [S_list]; rfl
      cases hg : Pct.form b with
      | error k =>
        have HR := Lib.hid (args_3 HC.out HF.out hg)
        have hk0 : k ≠ 0 := by rcases form_errs _ _ _ hg with h | h <;> omega
        have ek : ((k : Int) != 0) = true := by simp; omega
        have HG := Lib.hid hg
        clear hg
        go_wp2_with fail
        refine (refForm_error b k w2 hbl HG.out).mono ?_
        rintro e w3 ⟨rfl, hb3⟩
        go_wp2
        go_ret2
        exact argsPost_err HR.out (below_step hb2' hb3)
      | ok l2 =>
        have HR := Lib.hid (args_4 HC.out HF.out hg)
        have hl2 := form_len hg
        have HG := Lib.hid hg
        clear hg
        go_wp2_with fail
        refine (refForm_ok b l2 w2 hbl HG.out).mono ?_
        rintro e w3 ⟨v3, rfl, hr3, hb3⟩
        obtain ⟨A3, cap3, rfl⟩ := hr3.form
        have p3 := prow_pcells hr3
        have p23 := p2.next hb3
        have hb3' := below_step hb2' hb3
        clear hr3 hb3 p2
        by_cases hsum : 32 < l.length + l2.length
        · have hR := HR.out
          rw [if_pos hsum] at hR
          have HR := Lib.hid hR
          clear hR
          go_wp2
          go_ret2
          exact argsPost_err HR.out hb3'
        · have hR := HR.out
          rw [if_neg hsum] at hR
          have HR := Lib.hid hR
          clear hR
          have hown0 : PRow w3.heap.size (w3.alloc (.cells #[] 51)) (.slice (some ⟨w3.heap.size, 0, none⟩) 0 0) [] :=
            ⟨rfl, .inr ⟨_, 0, #[], rfl, Nat.le_refl _, heap_alloc_new _ _, Nat.le_refl _, Nat.zero_le _, rfl, rfl⟩⟩
          have hbA := below_alloc w3 (.cells #[] 51)
          have k1 : PReads (w3.alloc (.cells #[] 51)) w3.heap.size (.slice A2 l.length cap2) l := ⟨A2, cap2, rfl, p23.below hbA⟩
          have tok1 : True := trivial
          have tok2 : True := trivial
          go_wp2_with (first
            | (at_builtin; have _t := tok1; refine wpList_append_pairs ?hw1 (.tmp 44) (.tmp 45) rfl w3.heap.size w3.heap.size (.slice (some ⟨w3.heap.size, 0, none⟩) 0 0) (.slice A2 l.length cap2) [] l rfl rfl hown0 k1 (by simp; omega) (by simp) ?_; rotate_right; intro v5 w5 hown5 hgrow5; have hb5 := hbA.grown hgrow5 (by simp) (fun k hk => (World.ownsRow.lt hown0 k hk).1); have k2 : PReads w5 w3.heap.size (.slice A3 l2.length cap3) l2 := ⟨A3, cap3, rfl, p3.below hb5⟩; clear tok1 hgrow5)
            | (at_builtin; have _t := tok2; have _h := hown5; refine wpList_append_pairs ?hw2 (.tmp 46) (.tmp 47) rfl w3.heap.size w3.heap.size v5 (.slice A3 l2.length cap3) ([] ++ l) l2 rfl rfl hown5 k2 (by simp; omega) hb5.size ?_; rotate_right; intro v6 w6 hown6 hgrow6; have hb6 := hb5.grown hgrow6 hb5.size (fun k hk => (World.ownsRow.lt hown5 k hk).1); clear tok2 hgrow6)
            | fail)
          rw [List.nil_append] at hown6
          obtain ⟨A6, cap6, rfl⟩ := hown6.form
          go_ret2
          exact argsPost_ok HR.out (prow_pcells hown6) (below_step hb3' hb6)
    · have HR := Lib.hid (args_2 (b := b) HC.out HF.out hm)
      have em : (m != [80, 79, 83, 84]) = true := bne_iff_ne.2 hm
      have em2 : (m == [80, 79, 83, 84]) = false := beq_eq_false_iff_ne.2 hm
      clear hm
      go_wp2
      go_ret2
      exact argsPost_ok HR.out p2 hb2'
end Go.Proofs.YtbpeohadgplaaaaDoor
