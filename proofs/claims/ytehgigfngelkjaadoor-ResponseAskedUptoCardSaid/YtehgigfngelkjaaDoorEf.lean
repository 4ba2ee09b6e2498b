/- What package response's Page answers, for any status and texts. -/
import Derived.Test.YtehgigfngelkjaaDoorEg
namespace Go.Proofs.YtehgigfngelkjaaDoor
set_option maxRecDepth 8000
open Go.RowKit

set_option maxHeartbeats 400000 in
theorem texts_other (A A' : Option Addr) (cap cap' : Nat) (l m : List (List UInt8)) (w : World) (hlm : l.length ≠ m.length) :
    Calls Tryd.prog 17 #[.slice A l.length cap, .slice A' m.length cap'] w fun e w' => e = .returned (.bool (decide (l = m))) ∧ ∃ n, w' = w.drewN n := by
  have hne : ((l.length : Int) != (m.length : Int)) = true := by simp; omega
  have HLM := Lib.hid hlm
  clear hlm
  go_enter Tryd.func17, Tryd.ntmps17
  go_wp2
  go_ret
  refine ⟨ret_bool ?_, 0, rfl⟩
  have hne' : l ≠ m := by
    intro h
    subst h
    exact HLM.out rfl
  simp [hne']
theorem texts_any (A A' : Option Addr) (cap cap' : Nat) (l m : List (List UInt8)) (w : World) (hl : SCells w w.heap.size A l) (hm : SCells w w.heap.size A' m) (hb : l.length ≤ 1099511627776) :
    Calls Tryd.prog 17 #[.slice A l.length cap, .slice A' m.length cap'] w fun e w' => e = .returned (.bool (decide (l = m))) ∧ ∃ n, w' = w.drewN n := by
  by_cases h : l.length = m.length
  · exact texts_same A A' cap cap' l m w h hl hm hb
  · exact texts_other A A' cap cap' l m w h

def kindName : List UInt8 := [67, 111, 110, 116, 101, 110, 116, 45, 84, 121, 112, 101]
set_option maxHeartbeats 400000 in
theorem page_any (s : Int) (k b : List UInt8) (w : World) :
    Calls Tryd.prog 23 #[.int .i64 s, .string (S k), .string (S b)] w fun e w' => e = .returned (rspV s (.slice (some ⟨w.heap.size + 1, 0, none⟩) 1 1) b) ∧ w'.heap[w.heap.size + 1]? = some (.cells #[.string (S kindName), .string (S k)] 44 (0, 0)) ∧ Below w.heap.size w w' := by
  unfold rspV
  have q1 : ∀ o o' : Obj, ((w.alloc o).alloc o').heap[w.heap.size + 1]? = some o' := fun o o' => by
    have h := heap_alloc_new (w.alloc o) o'
    simpa using h
  have q2 : ∀ o o' : Obj, ((w.alloc o).alloc o').heap[w.heap.size]? = some o := fun o o' => by
    rw [Below.heap_alloc (w.alloc o) o' w.heap.size (by simp)]
    exact heap_alloc_new w o
  have q3 : ∀ o o' : Obj, Below w.heap.size w ((w.alloc o).alloc o') := fun o o' => ((Below.refl w.heap.size w).alloc (Nat.le_refl _) o).alloc (by simp) o'
  go_enter Tryd.func23, Tryd.ntmps23
  go_wp2
  have z := fun (i : Nat) (o' : Obj) => cell_of_row ((w.alloc (.cells #[.int .i64 s, .slice (some ⟨w.heap.size + 1, 0, none⟩) 1 1, .string (S b)] 24)).alloc o') w.heap.size i _ _ _ (q2 _ o')
  refine bodyPost_ret (v := .agg #[.int .i64 s, .slice (some ⟨w.heap.size + 1, 0, none⟩) 1 1, .string (S b)]) ?_ rfl ⟨rfl, q1 _ _, q3 _ _⟩
  simp [results, Tryd.results23, go_sem, z]
end Go.Proofs.YtehgigfngelkjaaDoor
