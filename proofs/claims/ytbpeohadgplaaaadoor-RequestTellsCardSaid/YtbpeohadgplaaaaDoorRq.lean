/- What the document's own Parse of requests answers, for any bytes. -/
import Derived.Test.YtbpeohadgplaaaaDoorRp
import Derived.Deep.RegionLaw
namespace Go.Proofs.YtbpeohadgplaaaaDoor
set_option maxRecDepth 8000
open Go.RowKit

/-! ### Plain facts -/
theorem dw_ends (p : UInt8 → Bool) : ∀ l : List UInt8, ∀ c, (l.dropWhile p).head? = some c → p c = false
  | [], c, h => by cases h
  | x :: l, c, h => by
    cases hx : p x with
    | true => rw [List.dropWhile_cons_of_pos hx] at h; exact dw_ends p l c h
    | false =>
      rw [List.dropWhile_cons_of_neg (by rw [hx]; simp)] at h
      cases h
      exact hx
theorem sp_one {c : UInt8} (h : spB c = false) : [32].contains c = false := by
  have := Req.byte_all (P := fun c => spB c || !([32].contains c)) (by decide +kernel) c
  rw [h] at this
  simpa using this
theorem trim_trim (z : List UInt8) : Lib.trimS (Req.trim z) [32] = Req.trim z := by
  have h1 : ∀ c, (Req.trim z).head? = some c → spB c = false := dw_ends spB _
  have h2 : ∀ c, (Req.trim z).reverse.head? = some c → spB c = false := by
    rw [trim_is, List.reverse_reverse]
    exact dw_ends spB _
  unfold Lib.trimS Lib.trimLeftS Lib.trimRightS
  rw [Req.dw_same _ _ (fun c hc => sp_one (h2 c hc)), List.reverse_reverse]
  exact Req.dw_same _ _ (fun c hc => sp_one (h1 c hc))
theorem isText_trim (z : List UInt8) : Req.isText (Req.trim z) = Req.within 32 126 (Req.trim z) := by
  unfold Req.isText
  rw [trim_trim, beq_self_eq_true, Bool.and_true]
theorem take_no {a : List UInt8} {k : Nat} (hk : k ≤ a.length) (h : ∀ j (hj : j < a.length), j < k → a[j] ≠ 58) : ∀ x ∈ a.take k, x ≠ 58 := by
  intro x hx
  obtain ⟨j, hj, rfl⟩ := List.getElem_of_mem hx
  rw [List.length_take] at hj
  rw [List.getElem_take]
  exact h j (by omega) (by omega)
theorem header_at {a : List UInt8} {k : Nat} (hk : k < a.length) (h58 : a[k] = 58) (h : ∀ j (hj : j < a.length), j < k → a[j] ≠ 58) :
    Req.header a = if Req.token (a.take k) && Req.within 32 126 (Req.trim (a.drop (k + 1))) then some (a.take k, Req.trim (a.drop (k + 1))) else none := by
  have e : a = a.take k ++ 58 :: a.drop (k + 1) := by
    conv => lhs; rw [← List.take_append_drop k a, List.drop_eq_getElem_cons hk, h58]
  have hc : Pct.cutAt 58 a = (a.take k, a.drop (k + 1), true) := by
    conv => lhs; rw [e]
    exact Pct.cutAt_first 58 _ _ (take_no (by omega) h)
  rw [header_def hc, isText_trim, Bool.true_and]
theorem header_out {a : List UInt8} (h : ∀ j (hj : j < a.length), a[j] ≠ 58) : Req.header a = none := by
  have hc : Pct.cutAt 58 a = (a, [], false) := Pct.cutAt_none 58 a (fun x hx => by
    obtain ⟨j, hj, rfl⟩ := List.getElem_of_mem hx
    exact h j hj)
  rw [header_def hc]
  rfl
theorem line_drop {l a r : List UInt8} {f : Nat} (hf : f ≤ l.length) (h : Req.line (l.drop f) = some (a, r)) : r = l.drop (f + a.length + 2) ∧ f + a.length + 2 ≤ l.length := by
  have hp := Req.line_parts h
  have hl := Req.line_len h
  rw [List.length_drop] at hl
  refine ⟨?_, by omega⟩
  rw [Nat.add_assoc, ← List.drop_drop, hp]
  have e : a ++ 13 :: 10 :: r = (a ++ [13, 10]) ++ r := by simp
  rw [e, show a.length + 2 = (a ++ [13, 10]).length by simp, List.drop_left']
  rfl

/-! ### Memory -/
theorem own_set {w : World} {base : Nat} {e : TypeId} {size : Nat} {v : Value} {n : Nat} {xs : List Value} (h : w.ownsRow base e size v n xs) {g i : Nat} (hg : g < base) (x : Value) : (w.setCell ⟨g, i, none⟩ x).ownsRow base e size v n xs := by
  refine ⟨h.1, ?_⟩
  rcases h.2 with h1 | ⟨g', cap, cur, hv, hbase, hg', hr⟩
  · exact .inl h1
  · exact .inr ⟨g', cap, cur, hv, hbase, (Below.heap_setCell w ⟨g, i, none⟩ x g' (by show g' ≠ g; omega)).trans hg', hr⟩

/-- Within the loop over headers: the answer's block, the request's, and the headers so far. -/
structure PInv (w : World) (g : Nat) (m t : List UInt8) (A : Option Addr) (cap : Nat) (acc : List Pct.PairL) (wr : World) : Prop where
  ans : AtR w wr
  blk : BlkR wr g m t (.slice A acc.length cap) []
  row : PRow (g + 1) wr (.slice A acc.length cap) acc
  gt : w.heap.size < g
  lt : g < wr.heap.size
  glo : 0 < w.heap.size ∧ 1 < w.heap.size

section
variable {w wr : World} {g : Nat} {m t : List UInt8} {A : Option Addr} {cap : Nat} {acc : List Pct.PairL}
theorem PInv.next (h : PInv w g m t A cap acc wr) {w' : World} (hb : Below wr.heap.size wr w') : PInv w g m t A cap acc w' :=
  ⟨h.ans.next hb, h.blk.below hb h.lt, own_below h.row hb, h.gt, Nat.lt_of_lt_of_le h.lt hb.size, h.glo⟩
theorem PInv.pcells (h : PInv w g m t A cap acc wr) : PCells wr wr.heap.size A acc := by
  obtain ⟨A', cap', e, hp⟩ := h.row.reads
  cases e
  exact hp
/-- What an append into the headers, and the store of it, leave. -/
theorem PInv.put (h : PInv w g m t A cap acc wr) {q : Pct.PairL} {w3 : World} {gg cp : Nat}
    (hown : w3.ownsRow (g + 1) 51 2 (.slice (some ⟨gg, 0, none⟩) (acc.length + 1) cp) (acc.length + 1) (cells2 acc ++ [.string (S q.1), .string (S q.2)]))
    (hb : BlkR w3 g m t (.slice A acc.length cap) []) (hat : AtR w w3) (hlt : g < w3.heap.size) :
    PInv w g m t (some ⟨gg, 0, none⟩) cp (acc ++ [q]) (w3.setCell ⟨g, 2, none⟩ (.slice (some ⟨gg, 0, none⟩) (acc.length + 1) cp)) := by
  have hne : w.heap.size ≠ g := Nat.ne_of_lt h.gt
  refine ⟨⟨?_, ?_, ?_, ?_⟩, ?_, ?_, h.gt, ?_, h.glo⟩
  · have hbb : Below g w3 (w3.setCell ⟨g, 2, none⟩ (.slice (some ⟨gg, 0, none⟩) (acc.length + 1) cp)) := (Below.refl g w3).setCell (p := ⟨g, 2, none⟩) (Nat.le_refl _) _
    exact hat.env.below hbb ⟨Nat.lt_trans h.glo.1 h.gt, Nat.lt_trans h.glo.2 h.gt⟩
  · exact (Below.heap_setCell w3 ⟨g, 2, none⟩ _ w.heap.size hne).trans hat.blk
  · exact hat.below.setCell (p := ⟨g, 2, none⟩) (Nat.le_of_lt h.gt) _
  · have := hat.lt
    simpa [World.setCell] using this
  · have := Lib.heap_setCell_same (i := 2) hb (.slice (some ⟨gg, 0, none⟩) (acc.length + 1) cp)
    unfold BlkR
    rw [this, List.length_append]
    rfl
  · have h2 := prow_snoc hown
    have h3 := own_set h2 (i := 2) (Nat.lt_succ_self g) (.slice (some ⟨gg, 0, none⟩) (acc.length + 1) cp)
    exact h3
  · simpa [World.setCell] using hlt
end

theorem refLine_S (l : List UInt8) (f : Nat) (w : World) (hf : f ≤ l.length) (hs : l.length ≤ 1073741824) :
    Calls Tryd.prog 55 #[.string (S l), .int .i64 (f : Int)] w fun e w' => e = lineRes (Req.line (l.drop f)) f ∧ w = w' := refLine_any (S l) f w hf hs
theorem refLine_0 (l : List UInt8) (w : World) (hs : l.length ≤ 1073741824) :
    Calls Tryd.prog 55 #[.string (S l), .int .i64 0] w fun e w' => e = lineRes (Req.line l) 0 ∧ w = w' := refLine_any (S l) 0 w (Nat.zero_le _) hs
theorem refLine_none (l : List UInt8) (f : Nat) (w : World) (hf : f ≤ l.length) (hs : l.length ≤ 1073741824) (h : Req.line (l.drop f) = none) :
    Calls Tryd.prog 55 #[.string (S l), .int .i64 (f : Int)] w fun e w' => e = .returned (.tuple #[.string ⟨#[]⟩, .int .i64 (-1)]) ∧ w = w' :=
  (refLine_S l f w hf hs).mono fun e w' ⟨h1, h2⟩ => ⟨by rw [h1, h]; rfl, h2⟩
theorem refLine_some (l a r : List UInt8) (f : Nat) (w : World) (hf : f ≤ l.length) (hs : l.length ≤ 1073741824) (h : Req.line (l.drop f) = some (a, r)) :
    Calls Tryd.prog 55 #[.string (S l), .int .i64 (f : Int)] w fun e w' => e = .returned (.tuple #[.string (S a), .int .i64 ((f + a.length + 2 : Nat) : Int)]) ∧ w = w' :=
  (refLine_S l f w hf hs).mono fun e w' ⟨h1, h2⟩ => ⟨by rw [h1, h]; rfl, h2⟩
theorem refFirst_ok (l m t : List UInt8) (w : World) (he : EnvR w) (hs : l.length ≤ 5000) (h : Req.first l = .ok (m, t)) :
    Calls Tryd.prog 56 #[.string (S l)] w fun e w' => e = .returned (.tuple #[.agg #[.string (S m), .string (S t), .slice none 0 0, .string ⟨#[]⟩], .int .i64 0]) ∧ Below w.heap.size w w' :=
  (refFirst_any l w he hs).mono fun e w' ⟨h1, h2⟩ => ⟨by rw [h1, h]; rfl, h2⟩
theorem refFirst_err (l : List UInt8) (n : Nat) (w : World) (he : EnvR w) (hs : l.length ≤ 5000) (h : Req.first l = .error n) :
    Calls Tryd.prog 56 #[.string (S l)] w fun e w' => e = .returned (.tuple #[.agg #[.string ⟨#[]⟩, .string ⟨#[]⟩, .slice none 0 0, .string ⟨#[]⟩], .int .i64 n]) ∧ Below w.heap.size w w' :=
  (refFirst_any l w he hs).mono fun e w' ⟨h1, h2⟩ => ⟨by rw [h1, h]; rfl, h2⟩
theorem refLine_none0 (l : List UInt8) (w : World) (hs : l.length ≤ 1073741824) (h : Req.line l = none) :
    Calls Tryd.prog 55 #[.string (S l), .int .i64 0] w fun e w' => e = .returned (.tuple #[.string ⟨#[]⟩, .int .i64 (-1)]) ∧ w = w' :=
  (refLine_0 l w hs).mono fun e w' ⟨h1, h2⟩ => ⟨by rw [h1, h]; rfl, h2⟩
theorem refLine_some0 (l a r : List UInt8) (w : World) (hs : l.length ≤ 1073741824) (h : Req.line l = some (a, r)) :
    Calls Tryd.prog 55 #[.string (S l), .int .i64 0] w fun e w' => e = .returned (.tuple #[.string (S a), .int .i64 ((a.length + 2 : Nat) : Int)]) ∧ w = w' :=
  (refLine_0 l w hs).mono fun e w' ⟨h1, h2⟩ => ⟨by
    rw [h1, h]
    unfold lineRes
    have e : ((0 : Nat) : Int) + (a.length : Int) + 2 = ((a.length + 2 : Nat) : Int) := by omega
    simp only [e], h2⟩

set_option maxHeartbeats 1600000 in
theorem refParse_no (l : List UInt8) (n : Nat) (w : World) (he : EnvR w) (h : (4096 < l.length ∧ n = 2) ∨ (¬ 4096 < l.length ∧ Req.line l = none ∧ n = 3) ∨ (¬ 4096 < l.length ∧ ∃ a r, Req.line l = some (a, r) ∧ Req.first a = .error n)) :
    Calls Tryd.prog 17 #[.string (S l)] w (ReqPost w (.error n)) := by
  have hz : (S l).size = l.length := rfl
  have h0 := AtR.new he
  clear he
  rcases h with ⟨hlong, rfl⟩ | ⟨hlong, hl, rfl⟩ | ⟨hlong, a, r, hl, hf⟩
  · have hlong' : 4096 < (S l).size := hlong
    obtain ⟨c0, c1, c2, c3, f0, f1, f2, f3⟩ := h0.cells
    go_enter Tryd.func17, Tryd.ntmps17
    go_wp2
    exact bodyPost_ret (v := .tuple #[zeroR, .int .i64 2]) (by simp [results, Tryd.results17, go_sem, zeroR, c0, c1, c2, c3]) rfl (reqPost_err rfl h0.below)
  · have hlong' : ¬ 4096 < (S l).size := hlong
    have hL := fun w' => refLine_none0 l w' (by omega) hl
    obtain ⟨c0, c1, c2, c3, f0, f1, f2, f3⟩ := h0.cells
    clear hl
    go_enter Tryd.func17, Tryd.ntmps17
    go_wp2_with (go_at_call 55; refine (hL _).mono ?_; rintro e w' ⟨rfl, rfl⟩)
    exact bodyPost_ret (v := .tuple #[zeroR, .int .i64 3]) (by simp [results, Tryd.results17, go_sem, zeroR, c0, c1, c2, c3]) rfl (reqPost_err rfl h0.below)
  · have hlong' : ¬ 4096 < (S l).size := hlong
    have hL := fun w' => refLine_some0 l a r w' (by omega) hl
    have hll := Req.line_len hl
    have hn0 := first_err hf
    have en : ((n : Int) != 0) = true := by simp; omega
    have HF := Lib.hid hf
    clear hl hf
    go_enter Tryd.func17, Tryd.ntmps17
    go_wp2_with (go_at_call 55; refine (hL _).mono ?_; rintro e w' ⟨rfl, rfl⟩)
    refine (refFirst_err a n _ h0.env (by omega) HF.out).mono ?_
    rintro e w2 ⟨rfl, hb2⟩
    have h2 := (h0.next hb2).next (below_alloc w2 (.cells #[.string ⟨#[]⟩, .string ⟨#[]⟩, .slice none 0 0, .string ⟨#[]⟩] 33))
    clear h0 hb2
    obtain ⟨c0, c1, c2, c3, f0, f1, f2, f3⟩ := h2.cells
    go_wp2
    exact bodyPost_ret (v := .tuple #[zeroR, .int .i64 n]) (by simp [results, Tryd.results17, go_sem, zeroR, c0, c1, c2, c3]) rfl (reqPost_err rfl (below_put4 h2.below _ _ _ _))
end Go.Proofs.YtbpeohadgplaaaaDoor
