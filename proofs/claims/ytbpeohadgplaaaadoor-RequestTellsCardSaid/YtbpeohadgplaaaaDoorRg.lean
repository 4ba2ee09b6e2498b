/- What package request's Path and Args answer, and the statements' own call awake, where the variables that they reach read as their texts lay them. -/
import Derived.Test.YtbpeohadgplaaaaDoorRf
import Derived.Test.YtbpeohadgplaaaaDoorPairsApp
namespace Go.Proofs.YtbpeohadgplaaaaDoor
set_option maxRecDepth 8000
open Go.RowKit

theorem prow_base {b b' : Nat} {w : World} {v : Value} {l : List Pct.PairL} (h : PRow b w v l) (hb : b' ≤ b) : PRow b' w v l := by
  obtain ⟨h1, h2⟩ := h
  refine ⟨h1, ?_⟩
  rcases h2 with h3 | ⟨g, cap, cur, h3, h4, h5⟩
  · exact .inl h3
  · exact .inr ⟨g, cap, cur, h3, Nat.le_trans hb h4, h5⟩

set_option maxHeartbeats 400000 in
theorem reqPath_any (m t : List UInt8) (A : Option Addr) (n cap : Nat) (b : List UInt8) (w : World) (hs : t.length ≤ 1073741824) :
    Calls Tryd.prog 30 #[.agg #[.string (S m), .string (S t), .slice A n cap, .string (S b)]] w (Told w (.returned (.string (S (Pct.cutAt 63 t).1)))) := by
  obtain ⟨x, y, f, hcut⟩ : ∃ x y f, Pct.cutAt 63 t = (x, y, f) := ⟨_, _, _, rfl⟩
  rw [hcut]
  have HC := Lib.hid hcut
  clear hcut
  go_enter Tryd.func30, Tryd.ntmps30
  go_wp2_with fail
  refine (strCut_to t 63 x y f _ (by omega) HC.out).mono ?_
  rintro e w1 ⟨rfl, hb1⟩
  go_wp2
  go_ret
  exact ⟨rfl, ((Below.refl _ _).alloc (Nat.le_refl _) _).trans (hb1.mono (by simp))⟩

def argsP (m t b : List UInt8) : Except Nat (List Pct.PairL) :=
  match Pct.form (Pct.cutAt 63 t).2.1 with
  | .error n => .error n
  | .ok l => if m = Req.post then (match Pct.form b with | .error n => .error n | .ok l2 => if 32 < l.length + l2.length then .error 5 else .ok (l ++ l2)) else .ok l
section
variable {m t b x y : List UInt8} {f : Bool} {n : Nat} {l l2 : List Pct.PairL}
theorem args_1 (h : Pct.cutAt 63 t = (x, y, f)) (h1 : Pct.form y = .error n) : argsP m t b = .error n := by unfold argsP; rw [h]; simp only [h1]
theorem args_2 (h : Pct.cutAt 63 t = (x, y, f)) (h1 : Pct.form y = .ok l) (h2 : m ≠ Req.post) : argsP m t b = .ok l := by unfold argsP; rw [h]; simp only [h1, if_neg h2]
theorem args_3 (h : Pct.cutAt 63 t = (x, y, f)) (h1 : Pct.form y = .ok l) (h3 : Pct.form b = .error n) : argsP Req.post t b = .error n := by unfold argsP; rw [h]; simp only [h1, if_true, h3]
theorem args_4 (h : Pct.cutAt 63 t = (x, y, f)) (h1 : Pct.form y = .ok l) (h3 : Pct.form b = .ok l2) : argsP Req.post t b = if 32 < l.length + l2.length then .error 5 else .ok (l ++ l2) := by unfold argsP; rw [h]; simp only [h1, if_true, h3]
end
theorem form_len {y : List UInt8} {l : List Pct.PairL} (h : Pct.form y = .ok l) : l.length ≤ 32 := Pct.formGo_len _ [] l (by simp) h

set_option maxHeartbeats 800000 in
theorem reqArgs_any (m t : List UInt8) (A : Option Addr) (n cap : Nat) (b : List UInt8) (w : World) (hd : Digs w) (hs : t.length ≤ 1073741824) (hbl : b.length ≤ 1073741824) :
    Calls Tryd.prog 22 #[.agg #[.string (S m), .string (S t), .slice A n cap, .string (S b)]] w (FormPost w (argsP m t b)) := by
  obtain ⟨x, y, f, hcut⟩ : ∃ x y f, Pct.cutAt 63 t = (x, y, f) := ⟨_, _, _, rfl⟩
  have hlen := cutAt_len 63 t
  rw [hcut] at hlen
  have hly : y.length ≤ 1073741824 := by simp only at hlen; omega
  have HC := Lib.hid hcut
  clear hcut hlen
  have h0 := hd.lt
  have hS := S_list
  have hb0 := (Below.refl w.heap.size w).alloc (Nat.le_refl _) (.cells #[.string (S m), .string (S t), .slice A n cap, .string (S b)] 33)
  have B0 := BlkR.new w m t b (.slice A n cap)
  have hz0 : w.heap.size < (w.alloc (.cells #[.string (S m), .string (S t), .slice A n cap, .string (S b)] 33)).heap.size := by simp
  go_enter Tryd.func22, Tryd.ntmps22
  generalize hW : w.alloc (.cells #[.string (S m), .string (S t), .slice A n cap, .string (S b)] 33) = w0 at hb0 B0 hz0
  have d1 := B0.c1
  go_wp2_with fail
  refine (strCut_to t 63 x y f _ (by omega) HC.out).mono ?_
  rintro e w1 ⟨rfl, hb1⟩
  have hb1' : Below w.heap.size w w1 := hb0.trans (hb1.mono hb0.size)
  have B1 := B0.below hb1 hz0
  have hz1 : w.heap.size < w1.heap.size := Nat.lt_of_lt_of_le hz0 hb1.size
  clear d1 hb1 B0 hz0 hW hb0
  cases hf : Pct.form y with
  | error k =>
    have HR := Lib.hid (args_1 (m := m) (b := b) HC.out hf)
    have hk0 : k ≠ 0 := by rcases form_errs _ _ _ hf with h | h <;> omega
    have ek : ((k : Int) != 0) = true := by simp; omega
    have HF := Lib.hid hf
    clear hf
    go_wp2_with fail
    refine (form_error y k w1 (hd.below hb1' h0) hly HF.out).mono ?_
    rintro e w2 ⟨rfl, hb2⟩
    go_wp2
    go_ret2
    exact formPost_err HR.out (hb1'.trans (hb2.mono hb1'.size))
  | ok l =>
    have HF := Lib.hid hf
    have hll := form_len hf
    clear hf
    go_wp2_with fail
    refine (form_ok y l w1 (hd.below hb1' h0) hly HF.out).mono ?_
    rintro e w2 ⟨v2, rfl, hr2, hb2⟩
    have hb2' : Below w.heap.size w w2 := hb1'.trans (hb2.mono hb1'.size)
    have B2 := B1.below hb2 hz1
    have hz2 : w.heap.size < w2.heap.size := Nat.lt_of_lt_of_le hz1 hb2.size
    have hr2' := prow_base hr2 hb1'.size
    clear hr2 hb2 B1 hz1 hb1'
    have d0 := B2.c0
    have d3 := B2.c3
    by_cases hm : m = Req.post
    · subst hm
      have em : ((S Req.post).toList != [80, 79, 83, 84]) = false := by rw [S_list]; rfl
      obtain ⟨A2, cap2, rfl⟩ := hr2'.form
      cases hg : Pct.form b with
      | error k =>
        have HR := Lib.hid (args_3 HC.out HF.out hg)
        have hk0 : k ≠ 0 := by rcases form_errs _ _ _ hg with h | h <;> omega
        have ek : ((k : Int) != 0) = true := by simp; omega
        have HG := Lib.hid hg
        clear hg
        go_wp2_with fail
        refine (form_error b k w2 (hd.below hb2' h0) hbl HG.out).mono ?_
        rintro e w3 ⟨rfl, hb3⟩
        go_wp2
        go_ret2
        exact formPost_err HR.out (hb2'.trans (hb3.mono hb2'.size))
      | ok l2 =>
        have HR := Lib.hid (args_4 HC.out HF.out hg)
        have hl2 := form_len hg
        have HG := Lib.hid hg
        clear hg
        go_wp2_with fail
        refine (form_ok b l2 w2 (hd.below hb2' h0) hbl HG.out).mono ?_
        rintro e w3 ⟨v3, rfl, hr3, hb3⟩
        have hb3' : Below w.heap.size w w3 := hb2'.trans (hb3.mono hb2'.size)
        have hr2'' := own_below hr2' hb3
        obtain ⟨A3, cap3, rfl⟩ := hr3.form
        by_cases hsum : 32 < l.length + l2.length
        · have hR := HR.out
          rw [if_pos hsum] at hR
          have HR := Lib.hid hR
          clear hR
          go_wp2
          go_ret2
          exact formPost_err HR.out hb3'
        · have hR := HR.out
          rw [if_neg hsum] at hR
          have HR := Lib.hid hR
          clear hR
          go_wp2_with (at_builtin; refine wpList_append_pairs ?hw1 (.tmp 46) (.tmp 47) rfl w.heap.size w3.heap.size (.slice A2 l.length cap2) (.slice A3 l2.length cap3) l l2 rfl rfl hr2'' hr3.reads (by omega) hb3'.size ?_; rotate_right; intro v4 w4 hown4 hgrow4; have hb4 : Below w.heap.size w w4 := hb3'.grown hgrow4 hb3'.size (fun k hk => (World.ownsRow.lt hr2'' k hk).1); clear hgrow4)
          go_ret2
          exact formPost_ok HR.out hown4 hb4
    · have HR := Lib.hid (args_2 (b := b) HC.out HF.out hm)
      have em : (m != [80, 79, 83, 84]) = true := bne_iff_ne.2 hm
      have em2 : (m == [80, 79, 83, 84]) = false := beq_eq_false_iff_ne.2 hm
      clear hm
      obtain ⟨A2, cap2, rfl⟩ := hr2'.form
      go_wp2
      go_ret2
      exact formPost_ok HR.out hr2' hb2'
end Go.Proofs.YtbpeohadgplaaaaDoor
