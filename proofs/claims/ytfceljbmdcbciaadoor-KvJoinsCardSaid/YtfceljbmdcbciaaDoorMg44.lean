/- All keys and values of a store. Condition: SortOk. The program's closure for its sort: which of two keys comes first. No condition. -/
import Derived.Test.YtfceljbmdcbciaaDoorMg43
import Derived.Test.YtfceljbmdcbciaaDoorMg37
import Derived.Lib.Bytealg
import Derived.Lib.AppendIntMem
import Derived.Shelf.SlSortCmp.Insertion
import Derived.Laws.Externs
namespace Go.Proofs.YtfceljbmdcbciaaDoor
set_option maxRecDepth 8000
open Go.RowKit

set_option maxHeartbeats 1600000 in
theorem kvAll_any (hS : SortOk) {F : Nat → Prop} {w : World} {P L Q : Nat} {d : Dk.D} {l : Wl.L} {n : Nat} {D : DataW Unit} (h : SK F w P L Q d l n D) (hn : n ≤ 1048576) :
    Calls Tryd.prog 24 #[.pointer (some ⟨Q, 0, none⟩), .string ⟨#[]⟩] w fun e w' => ∃ A c t, e = .returned (.slice A (List.length t) c) ∧ PCells w' w'.heap.size A t ∧ Kv.Told D t ∧ Below w.heap.size w w' ∧ List.length t ≤ n := by
  obtain ⟨_, b, hQ, hT, _, _⟩ := h
  have hc := cell_of_row w Q 1 _ _ _ hQ
  simp only [List.getElem?_toArray, List.getElem?_cons_succ, List.getElem?_cons_zero] at hc
  have HP := Lib.hid (kvTablePairs_any hS w b n D hT hn)
  clear hT hQ
  go_enter Tryd.func24, Tryd.ntmps24
  go_wp2_with fail
  refine HP.out.mono ?_
  rintro e w1 ⟨A, c, t, rfl, h1, h2, h3⟩
  go_wp2_with fail
  go_ret
  exact ⟨A, c, t, rfl, h1, h2, h3⟩
end Go.Proofs.YtfceljbmdcbciaaDoor
namespace Go.Proofs.YtfceljbmdcbciaaDoor
set_option maxRecDepth 8000
open Go.RowKit Go.Lib Go.Sort

set_option maxHeartbeats 400000 in
theorem kvCmp_any (a b : List UInt8) (w : World) : Calls Tryd.prog 113 #[.string (S a), .string (S b)] w fun e w' => e = .returned (.int .i64 (Kv.cmpB a b)) ∧ w' = w := by
  go_enter Tryd.func113, Tryd.ntmps113
  go_wp2
  rw [run_callFunc_extern Tryd.func131 (by kernel_rfl) (by kernel_rfl) (by kernel_rfl) (e := Extern.BytealgCompare.compare) (by kernel_rfl), Lib.run_compareString]
  simp only [Result.andThen]
  rw [Oper.upon_value]
  go_wp2
  go_ret
  exact ⟨rfl, rfl⟩
theorem kvCompare_any (a b : List UInt8) (w : World) : Calls Tryd.prog 86 #[.string (S a), .string (S b)] w fun e w' => e = .returned (.int .i64 (Kv.cmpB a b)) ∧ w' = w := by
  have hC := kvCmp_any a b w
  go_enter Tryd.func86, Tryd.ntmps86
  go_wp2_with (go_at_call 113; refine hC.mono ?_; rintro e w1 ⟨rfl, rfl⟩)
  go_ret
  exact ⟨rfl, rfl⟩
/-- A pair's two cells. -/
def encP (x : PairB) : List Value := [.string (S x.1), .string (S x.2)]
theorem kvClosure_any (x y : PairB) (W : World) : Calls Tryd.prog 85 #[.agg (encP x).toArray, .agg (encP y).toArray] W fun e w' => e = .returned (.int .i64 (Kv.cmpB x.1 y.1)) ∧ ∃ q os', w' = grow (W.drewN q) os' := by
  have hC := fun w' => kvCompare_any x.1 y.1 w'
  unfold encP
  go_enter Tryd.func85, Tryd.ntmps85
  go_wp2_with (go_at_call 86; refine (hC _).mono ?_; rintro e w' ⟨rfl, rfl⟩)
  go_ret
  exact ⟨rfl, 0, _, by rw [alloc_eq_grow, alloc_eq_grow, grow_grow]; rfl⟩
theorem ltOf_pair (x y : PairB) : ltOf (fun x y : PairB => Kv.cmpB x.1 y.1) x y = decide (Kv.cmpB x.1 y.1 < 0) := rfl
theorem swo_pair : SWO (ltOf fun x y : PairB => Kv.cmpB x.1 y.1) where
  irrefl x := by
    rw [ltOf_pair, Kv.cmp_self]
    rfl
  trans x y z h1 h2 := by
    rw [ltOf_pair, decide_eq_true_eq] at *
    exact Kv.cmp_trans _ _ _ h1 h2
  ntrans x y z h1 h2 := by
    rw [ltOf_pair, decide_eq_false_iff_not] at *
    intro h3
    have n1 := Kv.cmp_neg x.1 y.1
    rcases Int.lt_trichotomy (Kv.cmpB y.1 x.1) 0 with k1 | k1 | k1
    · exact h2 (Kv.cmp_trans _ _ _ k1 h3)
    · rw [Kv.cmp_zero _ _ k1] at h2
      exact h2 h3
    · omega
end Go.Proofs.YtfceljbmdcbciaaDoor
