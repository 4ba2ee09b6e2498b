/- What the document's own Right of requests answers, for any request of at most 50 headers and texts of at most 5000 bytes, the first two of at most 4000 together. -/
import Derived.Test.YtbpeohadgplaaaaDoorRs
import Derived.Test.YtbpeohadgplaaaaDoorRBackWalk
namespace Go.Proofs.YtbpeohadgplaaaaDoor
set_option maxRecDepth 8000
open Go.RowKit

theorem text_trim {y : List UInt8} (h : Req.within 32 126 y = true) : Req.isText y = decide (Req.trim y = y) := by
  by_cases ht : Req.trim y = y
  · rw [decide_eq_true ht]
    have := isText_trim y
    rw [ht, h] at this
    exact this
  · rw [decide_eq_false ht]
    cases hi : Req.isText y with
    | false => rfl
    | true =>
      exfalso
      obtain ⟨h1, h2⟩ := Req.text_ends hi
      apply ht
      rw [trim_is, Req.dw_same spB y h1, Req.dw_same spB y.reverse h2, List.reverse_reverse]
def topX (m t : List UInt8) : List UInt8 := m ++ [32] ++ t ++ [32, 72, 84, 84, 80, 47, 49, 46, 49]
theorem topX_is (m t : List UInt8) : topX m t = m ++ [32] ++ t ++ [32] ++ Req.version := by simp [topX, Req.version]
theorem first_yes {m t : List UInt8} (h1 : Req.known m = true) (h2 : Req.isTarget t = true) : Req.first (topX m t) = .ok (m, t) := by
  rw [topX_is]
  exact Req.first_top h1 h2
theorem first_no {m t m' t' : List UInt8} (h : (Req.known m && Req.isTarget t) = false) (hf : Req.first (topX m t) = .ok (m', t')) : m' ≠ m ∨ t' ≠ t := by
  by_cases hm : m' = m
  · by_cases ht : t' = t
    · exfalso
      subst hm ht
      obtain ⟨h1, h2, _⟩ := Req.first_is hf
      rw [h1, h2] at h
      cases h
    · exact .inr ht
  · exact .inl hm
theorem right_34 {m t b : List UInt8} {l : List Pct.PairL} (h : (Req.known m && Req.isTarget t) = false) : Req.right ⟨m, t, l, b⟩ = false := by
  cases hk : Req.known m with
  | false => exact right_3 hk
  | true => rw [hk, Bool.true_and] at h; exact right_4 h
theorem right_7 {m t b : List UInt8} {l : List Pct.PairL} (h : Req.bodyLen l ≠ some b.length) : Req.right ⟨m, t, l, b⟩ = false := by
  unfold Req.right
  simp only [beq_eq_false_iff_ne.2 h, Bool.and_false]
theorem right_8 {m t b : List UInt8} {l : List Pct.PairL} (h1 : ¬ 32 < l.length) (h34 : (Req.known m && Req.isTarget t) = true) (h5 : l.all Req.headOk = true) (h6 : Req.bodyLen l = some b.length) : Req.right ⟨m, t, l, b⟩ = decide (Req.fewest ⟨m, t, l, b⟩ ≤ 4096) := by
  rw [Bool.and_eq_true] at h34
  unfold Req.right
  simp only [h34.1, h34.2, h5, h6, decide_eq_true (p := l.length ≤ 32) (by omega), Bool.and_true, Bool.true_and, beq_self_eq_true]

set_option maxHeartbeats 1600000 in
/-- Where the first line does not read as it was. -/
theorem refRight_no (m t : List UInt8) (A : Option Addr) (cap : Nat) (l : List Pct.PairL) (b : List UInt8) (w : World) (he : EnvR w) (hl : PCells w w.heap.size A l) (hmt : m.length + t.length ≤ 4000) (h : (Req.known m && Req.isTarget t) = false) :
    Calls Tryd.prog 28 #[.agg #[.string (S m), .string (S t), .slice A l.length cap, .string (S b)]] w (Told w (.returned (.bool false))) := by
  have h0 := HasR.new (m := m) (t := t) (b := b) (cap := cap) hl
  have hb0 := below_alloc w (.cells #[.string (S m), .string (S t), .slice A l.length cap, .string (S b)] 33)
  have he0 := he.next hb0
  have hxl : (topX m t).length ≤ 5000 := by simp [topX]; omega
  have HX := Lib.hid (show topX m t = m ++ [32] ++ t ++ [32, 72, 84, 84, 80, 47, 49, 46, 49] from rfl)
  have a1 : ∀ w'' : World, (Op.stringOp .add (S m) ⟨#[32]⟩).run Tryd.prog w'' = .ok (.string (S (m ++ [32]))) w'' := fun w'' => run_add_S w'' m [32] (by simp; omega)
  obtain ⟨x1, hx1⟩ : ∃ x, x = m ++ [32] := ⟨_, rfl⟩
  have hl1 : x1.length = m.length + 1 := by rw [hx1]; simp
  rw [← hx1] at a1 HX
  have a2 : ∀ w'' : World, (Op.stringOp .add (S x1) (S t)).run Tryd.prog w'' = .ok (.string (S (x1 ++ t))) w'' := fun w'' => run_add_S w'' x1 t (by omega)
  obtain ⟨x2, hx2⟩ : ∃ x, x = x1 ++ t := ⟨_, rfl⟩
  have hxl2 : x2.length = m.length + 1 + t.length := by rw [hx2]; simp; omega
  rw [← hx2] at a2 HX
  have a3 : ∀ w'' : World, (Op.stringOp .add (S x2) ⟨#[32, 72, 84, 84, 80, 47, 49, 46, 49]⟩).run Tryd.prog w'' = .ok (.string (S (topX m t))) w'' := fun w'' => by
    rw [HX.out]
    exact run_add_S w'' x2 [32, 72, 84, 84, 80, 47, 49, 46, 49] (by simp; omega)
  have HNO := Lib.hid (fun m' t' hf => first_no (m' := m') (t' := t') h hf)
  obtain ⟨x, hx⟩ : ∃ x, x = topX m t := ⟨_, rfl⟩
  rw [← hx] at a3 hxl HNO
  clear hx1 hx2 hx HX
  generalize hW : w.alloc (.cells #[.string (S m), .string (S t), .slice A l.length cap, .string (S b)] 33) = w0 at h0 hb0 he0
  obtain ⟨c0, c1, c2, c3⟩ := h0.cells
  cases hfx : Req.first x with
  | error n =>
    have hn0 := first_err hfx
    have en : ((n : Int) != 0) = true := by simp; omega
    go_enter Tryd.func28, Tryd.ntmps28
    go_wp2_with fail
    refine (refFirst_err x n w0 he0 hxl hfx).mono ?_
    rintro e w1 ⟨rfl, hb1⟩
    have hb1' := below_step hb0 hb1
    clear hfx
    go_wp2
    go_quiet (fail)
    go_wp2
    go_ret
    exact ⟨rfl, below_drewN (hb1'.alloc hb1'.size _) _⟩
  | ok p =>
    obtain ⟨m', t'⟩ := p
    have hne := HNO.out m' t' hfx
    go_enter Tryd.func28, Tryd.ntmps28
    go_wp2_with fail
    refine (refFirst_ok x m' t' w0 he0 hxl hfx).mono ?_
    rintro e w1 ⟨rfl, hb1⟩
    have hb1' := below_step hb0 hb1
    have h1 := (h0.next hb1).next (below_alloc w1 (.cells #[.string (S m'), .string (S t'), .slice none 0 0, .string ⟨#[]⟩] 33))
    clear hfx c0 c1 c2 c3 h0
    obtain ⟨c0, c1, c2, c3⟩ := h1.cells
    have hz1 : w.heap.size ≠ w1.heap.size := by
      have := h1.lt
      have h2 := hb1.size
      have h3 : w.heap.size < w0.heap.size := by rw [← hW]; simp
      omega
    have Bx : BlkR (w1.alloc (.cells #[.string (S m'), .string (S t'), .slice none 0 0, .string ⟨#[]⟩] 33)) w1.heap.size m' t' (.slice none 0 0) [] := BlkR.new w1 m' t' [] _
    have d0 := Bx.c0
    have d1 := Bx.c1
    have hbf := hb1'.alloc hb1'.size (.cells #[.string (S m'), .string (S t'), .slice none 0 0, .string ⟨#[]⟩] 33)
    clear hW hb1
    by_cases hm : m' = m
    · have ht : t' ≠ t := by
        rcases hne with h | h
        · exact absurd hm h
        · exact h
      have em : ((S m').toList == (S m).toList) = true := by rw [hm]; simp
      have et : ((S t').toList == (S t).toList) = false := by rw [S_list, S_list]; exact beq_eq_false_iff_ne.2 ht
      clear hm ht hne
      go_wp2
      generalize w1.alloc (.cells #[.string (S m'), .string (S t'), .slice none 0 0, .string ⟨#[]⟩] 33) = w2 at h1 c0 c1 c2 c3 Bx d0 d1 hbf
      go_quiet (fail)
      go_wp2
      go_ret
      exact ⟨rfl, below_drewN hbf _⟩
    · have em : ((S m').toList == (S m).toList) = false := by rw [S_list, S_list]; exact beq_eq_false_iff_ne.2 hm
      clear hm hne
      go_wp2
      generalize w1.alloc (.cells #[.string (S m'), .string (S t'), .slice none 0 0, .string ⟨#[]⟩] 33) = w2 at h1 c0 c1 c2 c3 Bx d0 d1 hbf
      go_quiet (fail)
      go_wp2
      go_ret
      exact ⟨rfl, below_drewN hbf _⟩
end Go.Proofs.YtbpeohadgplaaaaDoor
