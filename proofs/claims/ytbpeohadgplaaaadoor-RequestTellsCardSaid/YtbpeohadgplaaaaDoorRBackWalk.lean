/- What the statement RequestBack answers: true, for any request, where the variables that it reaches read as their texts lay them. -/
import Derived.Test.YtbpeohadgplaaaaDoorRl
import Derived.Test.YtbpeohadgplaaaaDoorRm
import Derived.Test.YtbpeohadgplaaaaDoorReqBack
namespace Go.Proofs.YtbpeohadgplaaaaDoor
set_option maxRecDepth 8000
open Go.RowKit

theorem fewR_is {m t b : List UInt8} {l : List Pct.PairL} (h : fewRB m t l b = true) : FewR m t l b := by
  unfold fewRB fewB at h
  simp only [Bool.and_eq_true, decide_eq_true_eq] at h
  refine ⟨by omega, by omega, by omega, h.1.2, fun k hk => ?_⟩
  have := List.all_eq_true.1 h.1.1 l[k] (List.getElem_mem hk)
  unfold few1 at this
  simp only [Bool.and_eq_true, decide_eq_true_eq] at this
  omega
theorem fewR_to (m t : List UInt8) (A : Option Addr) (cap : Nat) (l : List Pct.PairL) (b : List UInt8) (o : Bool) (w : World) (hl : PCells w w.heap.size A l) (hm : l.length ≤ 9223372036854775807) (h : fewRB m t l b = o) :
    Calls Tryd.prog 19 #[.agg #[.string (S m), .string (S t), .slice A l.length cap, .string (S b)]] w fun e w' => e = .returned (.bool o) ∧ Below w.heap.size w w' := by
  rw [← h]
  exact fewR_any m t A cap l b w hl hm
theorem reqWrite_ok (m t : List UInt8) (A : Option Addr) (cap : Nat) (l : List Pct.PairL) (b x : List UInt8) (w : World) (hl : PCells w w.heap.size A l) (hf : FewR m t l b) (h : Req.write ⟨m, t, l, b⟩ = .ok x) :
    Calls Tryd.prog 20 #[.agg #[.string (S m), .string (S t), .slice A l.length cap, .string (S b)]] w fun e w' => e = .returned (.tuple #[.string (S x), .int .i64 0]) ∧ Below w.heap.size w w' :=
  (reqWrite_any m t A cap l b w hl hf).mono fun e w' ⟨h1, h2⟩ => ⟨by rw [h1, h]; rfl, h2⟩
theorem reqWrite_err (m t : List UInt8) (A : Option Addr) (cap : Nat) (l : List Pct.PairL) (b : List UInt8) (n : Nat) (w : World) (hl : PCells w w.heap.size A l) (hf : FewR m t l b) (h : Req.write ⟨m, t, l, b⟩ = .error n) :
    Calls Tryd.prog 20 #[.agg #[.string (S m), .string (S t), .slice A l.length cap, .string (S b)]] w fun e w' => e = .returned (.tuple #[.string ⟨#[]⟩, .int .i64 n]) ∧ Below w.heap.size w w' :=
  (reqWrite_any m t A cap l b w hl hf).mono fun e w' ⟨h1, h2⟩ => ⟨by rw [h1, h]; rfl, h2⟩
theorem right_to (m t : List UInt8) (A : Option Addr) (cap : Nat) (l : List Pct.PairL) (b : List UInt8) (o : Bool) (w : World) (hl : PCells w w.heap.size A l) (hf : FewR m t l b) (h : Req.right ⟨m, t, l, b⟩ = o) :
    Calls Tryd.prog 27 #[.agg #[.string (S m), .string (S t), .slice A l.length cap, .string (S b)]] w fun e w' => e = .returned (.bool o) ∧ Below w.heap.size w w' := by
  rw [← h]
  exact right_any m t A cap l b w hl hf

/-- A request in a block, and its headers. -/
structure HasR (w : World) (g : Nat) (m t : List UInt8) (A : Option Addr) (cap : Nat) (l : List Pct.PairL) (b : List UInt8) : Prop where
  blk : BlkR w g m t (.slice A l.length cap) b
  lt : g < w.heap.size
  row : PCells w w.heap.size A l
theorem HasR.next {w w' : World} {g : Nat} {m t b : List UInt8} {A : Option Addr} {cap : Nat} {l : List Pct.PairL} (h : HasR w g m t A cap l b) (hb : Below w.heap.size w w') : HasR w' g m t A cap l b :=
  ⟨h.blk.below hb h.lt, Nat.lt_of_lt_of_le h.lt hb.size, h.row.next hb⟩
theorem HasR.new {w : World} {m t b : List UInt8} {A : Option Addr} {cap : Nat} {l : List Pct.PairL} (h : PCells w w.heap.size A l) : HasR (w.alloc (.cells #[.string (S m), .string (S t), .slice A l.length cap, .string (S b)] 33)) w.heap.size m t A cap l b :=
  ⟨BlkR.new w m t b _, by simp, h.next (below_alloc w _)⟩
theorem HasR.cells {w : World} {g : Nat} {m t b : List UInt8} {A : Option Addr} {cap : Nat} {l : List Pct.PairL} (h : HasR w g m t A cap l b) : w.cell? ⟨g, 0, none⟩ = some (.string (S m)) ∧ w.cell? ⟨g, 1, none⟩ = some (.string (S t)) ∧ w.cell? ⟨g, 2, none⟩ = some (.slice A l.length cap) ∧ w.cell? ⟨g, 3, none⟩ = some (.string (S b)) :=
  ⟨h.blk.c0, h.blk.c1, h.blk.c2, h.blk.c3⟩

set_option maxHeartbeats 1600000 in
theorem requestBack_any (m t : List UInt8) (A : Option Addr) (cap : Nat) (l : List Pct.PairL) (b : List UInt8) (w : World) (he : EnvR w) (hl : PCells w w.heap.size A l) (hm : l.length ≤ 9223372036854775807) :
    Calls Tryd.prog 6 #[.agg #[.string (S m), .string (S t), .slice A l.length cap, .string (S b)]] w (AwakePost w) := by
  have hS := S_list
  have h0 := HasR.new (m := m) (t := t) (b := b) (cap := cap) hl
  have hb0 := below_alloc w (.cells #[.string (S m), .string (S t), .slice A l.length cap, .string (S b)] 33)
  have he0 := he.next hb0
  go_enter Tryd.func6, Tryd.ntmps6
  go_wp2_with fail
  generalize w.alloc (.cells #[.string (S m), .string (S t), .slice A l.length cap, .string (S b)] 33) = w0 at h0 hb0 he0
  refine (awake_req w0 he0).mono ?_
  rintro e w1 ⟨rfl, hb1⟩
  have he1 := he0.next hb1
  have h1 := h0.next hb1
  have hb1' := below_step hb0 hb1
  clear he0 h0 hb0 hb1
  obtain ⟨c0, c1, c2, c3⟩ := h1.cells
  cases hf : fewRB m t l b with
  | false =>
    go_wp2_with fail
    refine (fewR_to m t A cap l b false w1 h1.row hm hf).mono ?_
    rintro e w2 ⟨rfl, hb2⟩
    clear hf
    go_wp2
    go_ret
    exact ⟨rfl, below_step hb1' hb2⟩
  | true =>
    have hfew := fewR_is hf
    go_wp2_with fail
    refine (fewR_to m t A cap l b true w1 h1.row hm hf).mono ?_
    rintro e w2 ⟨rfl, hb2⟩
    have he2 := he1.next hb2
    have h2 := h1.next hb2
    have hb2' := below_step hb1' hb2
    clear he1 h1 hb1' hb2 hf c0 c1 c2 c3 hl
    obtain ⟨c0, c1, c2, c3⟩ := h2.cells
    have HFEW := Lib.hid hfew
    have hn50 := hfew.n
    clear hfew
    cases hr : Req.right ⟨m, t, l, b⟩ with
    | false =>
      have HW := Lib.hid (write_1 hr)
      have HR := Lib.hid hr
      clear hr
      go_wp2_with fail
      refine (reqWrite_err m t A cap l b 1 w2 h2.row HFEW.out HW.out).mono ?_
      rintro e w3 ⟨rfl, hb3⟩
      have h3 := h2.next hb3
      have hb3' := below_step hb2' hb3
      clear hb3 h2 c0 c1 c2 c3
      obtain ⟨c0, c1, c2, c3⟩ := h3.cells
      go_wp2_with fail
      refine (right_to m t A cap l b false w3 h3.row HFEW.out HR.out).mono ?_
      rintro e w4 ⟨rfl, hb4⟩
      go_wp2
      go_ret
      exact ⟨rfl, below_step hb3' hb4⟩
    | true =>
      have HR := Lib.hid hr
      by_cases hlong : 4096 < Req.fewest ⟨m, t, l, b⟩ + l.length
      · have HW := Lib.hid (write_2 hr hlong)
        clear hr hlong
        go_wp2_with fail
        refine (reqWrite_err m t A cap l b 2 w2 h2.row HFEW.out HW.out).mono ?_
        rintro e w3 ⟨rfl, hb3⟩
        have h3 := h2.next hb3
        have hb3' := below_step hb2' hb3
        clear hb3 h2 c0 c1 c2 c3
        obtain ⟨c0, c1, c2, c3⟩ := h3.cells
        go_wp2_with fail
        refine (right_to m t A cap l b true w3 h3.row HFEW.out HR.out).mono ?_
        rintro e w4 ⟨rfl, hb4⟩
        go_wp2
        go_ret
        exact ⟨rfl, below_step hb3' hb4⟩
      · have HW := Lib.hid (write_3 hr hlong)
        have HP := Lib.hid (Req.parse_text hr hlong)
        obtain ⟨x, hx⟩ : ∃ x, x = Req.text [32] ⟨m, t, l, b⟩ := ⟨_, rfl⟩
        rw [← hx] at HW HP
        clear hr hlong hx
        go_wp2_with fail
        refine (reqWrite_ok m t A cap l b x w2 h2.row HFEW.out HW.out).mono ?_
        rintro e w3 ⟨rfl, hb3⟩
        have h3 := h2.next hb3
        have he3 := he2.next hb3
        have hb3' := below_step hb2' hb3
        clear hb3 h2 c0 c1 c2 c3 he2 hb2'
        obtain ⟨c0, c1, c2, c3⟩ := h3.cells
        go_wp2_with fail
        refine (right_to m t A cap l b true w3 h3.row HFEW.out HR.out).mono ?_
        rintro e w4 ⟨rfl, hb4⟩
        have h4 := h3.next hb4
        have he4 := he3.next hb4
        have hb4' := below_step hb3' hb4
        clear hb4 h3 c0 c1 c2 c3 he3 hb3'
        go_wp2_with fail
        refine (reqParse_ok x m t l b w4 he4 HP.out).mono ?_
        rintro e w5 ⟨A5, cap5, rfl, hp5, hb5⟩
        have h5 := h4.next hb5
        have hb5' := below_step hb4' hb5
        have g5 := HasR.new (m := m) (t := t) (b := b) (cap := cap5) hp5
        have hb6 := below_alloc w5 (.cells #[.string (S m), .string (S t), .slice A5 l.length cap5, .string (S b)] 33)
        have h6 := h5.next hb6
        have hb6' := below_step hb5' hb6
        clear hb5 h4 he4 hb4' hp5 h5 hb6 hb5'
        obtain ⟨c0, c1, c2, c3⟩ := h6.cells
        obtain ⟨d0, d1, d2, d3⟩ := g5.cells
        go_wp2_with fail
        generalize w5.alloc (.cells #[.string (S m), .string (S t), .slice A5 l.length cap5, .string (S b)] 33) = w6 at h6 g5 hb6' c0 c1 c2 c3 d0 d1 d2 d3
        refine (same_yes m t A A5 cap cap5 l b w6 h6.row g5.row (by omega)).mono ?_
        rintro e w7 ⟨rfl, hb7⟩
        go_wp2
        go_ret
        exact ⟨rfl, below_step hb6' hb7⟩
end Go.Proofs.YtbpeohadgplaaaaDoor
