/- What package response's reasons and Reason answer, for any status. No condition. -/
import Derived.Test.YtehgigfngelkjaaDoorCa
import Derived.Test.YtehgigfngelkjaaDoorRspPure
import Derived.Maps.Own
namespace Go.Proofs.YtehgigfngelkjaaDoor
set_option maxRecDepth 8000
open Go.RowKit

def rsE (k : Int) (t : List UInt8) (c : Nat) : MapEntry := ⟨.int .i64 k, .agg #[.string (S t)], c⟩
def rsL0 : Array MapEntry := #[]
def rsL1 : Array MapEntry := #[rsE 200 Rsp.t200 0]
def rsL2 : Array MapEntry := #[rsE 200 Rsp.t200 0, rsE 302 Rsp.t302 1]
def rsL3 : Array MapEntry := #[rsE 200 Rsp.t200 0, rsE 302 Rsp.t302 1, rsE 400 Rsp.t400 2]
def rsL4 : Array MapEntry := #[rsE 200 Rsp.t200 0, rsE 302 Rsp.t302 1, rsE 400 Rsp.t400 2, rsE 403 Rsp.t403 3]
def rsL5 : Array MapEntry := #[rsE 200 Rsp.t200 0, rsE 302 Rsp.t302 1, rsE 400 Rsp.t400 2, rsE 403 Rsp.t403 3, rsE 404 Rsp.t404 4]
def rsL6 : Array MapEntry := #[rsE 200 Rsp.t200 0, rsE 302 Rsp.t302 1, rsE 400 Rsp.t400 2, rsE 403 Rsp.t403 3, rsE 404 Rsp.t404 4, rsE 405 Rsp.t405 5]
def rsL7 : Array MapEntry := #[rsE 200 Rsp.t200 0, rsE 302 Rsp.t302 1, rsE 400 Rsp.t400 2, rsE 403 Rsp.t403 3, rsE 404 Rsp.t404 4, rsE 405 Rsp.t405 5, rsE 503 Rsp.t503 6]

theorem last_at (w : World) (o : Obj) : (w.alloc o).heap[w.heap.size]? = some o := by
  show (w.heap.push o)[w.heap.size]? = some o
  exact Array.getElem?_push_size
theorem setBlock_last (w : World) (o o' : Obj) : ({ w.alloc o with heap := (w.alloc o).heap.setIfInBounds w.heap.size o' } : World) = w.alloc o' := by
  have h : (w.heap.push o).setIfInBounds w.heap.size o' = w.heap.push o' := by
    apply Array.ext_getElem?
    intro i
    rw [Array.getElem?_setIfInBounds, Array.getElem?_push, Array.getElem?_push]
    by_cases h : w.heap.size = i
    · subst h; simp
    · rw [if_neg h, if_neg (fun e => h e.symm), if_neg (fun e => h e.symm)]
  show ({ w with heap := (w.heap.push o).setIfInBounds w.heap.size o' } : World) = { w with heap := w.heap.push o' }
  rw [h]

theorem rs_insert (w : World) (es : Array MapEntry) (c : Nat) (k : Int) (v : Value) (hk : (Lit.int .i64 k).wf = true)
    (h : Instr.findNow (.int .i64) (.int .i64 k) es.toList 0 = some none) :
    (Instr.mapUpdate 67 (.map (some w.heap.size)) (.int .i64 k) v).run Tryd.prog (w.alloc (.map es c)) = .ok () (w.alloc (.map (es.push ⟨.int .i64 k, v, c⟩) (c + 1))) := by
  have hb : (w.alloc (.map es c)).heap[w.heap.size]? = some (.map es c) := last_at w _
  have hu : Tryd.prog.underlying 3 = some (.int .i64) := Tryd.underlying3
  have hkey := Maps.keyOf_int_mk (P := Tryd.prog) Tryd.underlying3 hk
  have K := Maps.int_keyed (P := Tryd.prog) Tryd.underlying3
  have hf : (Instr.findKey 3 (.int .i64 k) es.toList).run Tryd.prog (w.alloc (.map es c)) = .ok none (w.alloc (.map es c)) := by
    simp [Instr.findKey, run_underlying hu, h, Result.andThen]
  have hs := setBlock_last w (.map es c) (.map (es.push ⟨.int .i64 k, v, c⟩) (c + 1))
  simp [Instr.mapUpdate, run_underlying Tryd.underlying67, MapKept.run_getObj_map hb, K.check _ _ hkey, hf, MapKept.run_setObj_map _ hb, Result.andThen]
  exact hs

theorem fn_hit (k : Int) (x : List UInt8) (c i : Nat) (es : List MapEntry) : Instr.findNow (.int .i64) (.int .i64 k) (rsE k x c :: es) i = some (some (i, .agg #[.string (S x)])) := by
  simp [Instr.findNow, Instr.sameNow, rsE]
theorem fn_miss {s k : Int} (h : s ≠ k) (x : List UInt8) (c i : Nat) (es : List MapEntry) : Instr.findNow (.int .i64) (.int .i64 s) (rsE k x c :: es) i = Instr.findNow (.int .i64) (.int .i64 s) es (i + 1) := by
  have : (s == k) = false := beq_eq_false_iff_ne.2 h
  simp only [Instr.findNow, Instr.sameNow, rsE, this, if_true]

theorem rs_find (s : Int) : (Rsp.reason s = [] ∧ Instr.findNow (.int .i64) (.int .i64 s) rsL7.toList 0 = some none) ∨ ∃ i, Instr.findNow (.int .i64) (.int .i64 s) rsL7.toList 0 = some (some (i, .agg #[.string (S (Rsp.reason s))])) := by
  show (Rsp.reason s = [] ∧ Instr.findNow (.int .i64) (.int .i64 s) [rsE 200 Rsp.t200 0, rsE 302 Rsp.t302 1, rsE 400 Rsp.t400 2, rsE 403 Rsp.t403 3, rsE 404 Rsp.t404 4, rsE 405 Rsp.t405 5, rsE 503 Rsp.t503 6] 0 = some none) ∨ ∃ i, Instr.findNow (.int .i64) (.int .i64 s) [rsE 200 Rsp.t200 0, rsE 302 Rsp.t302 1, rsE 400 Rsp.t400 2, rsE 403 Rsp.t403 3, rsE 404 Rsp.t404 4, rsE 405 Rsp.t405 5, rsE 503 Rsp.t503 6] 0 = some (some (i, .agg #[.string (S (Rsp.reason s))]))
  by_cases h0 : s = 200
  · subst h0; exact .inr ⟨0, fn_hit _ _ _ _ _⟩
  by_cases h1 : s = 302
  · subst h1; exact .inr ⟨1, by rw [fn_miss (by decide : (302 : Int) ≠ 200), fn_hit]; rfl⟩
  by_cases h2 : s = 400
  · subst h2; exact .inr ⟨2, by rw [fn_miss (by decide : (400 : Int) ≠ 200), fn_miss (by decide : (400 : Int) ≠ 302), fn_hit]; rfl⟩
  by_cases h3 : s = 403
  · subst h3; exact .inr ⟨3, by rw [fn_miss (by decide : (403 : Int) ≠ 200), fn_miss (by decide : (403 : Int) ≠ 302), fn_miss (by decide : (403 : Int) ≠ 400), fn_hit]; rfl⟩
  by_cases h4 : s = 404
  · subst h4; exact .inr ⟨4, by rw [fn_miss (by decide : (404 : Int) ≠ 200), fn_miss (by decide : (404 : Int) ≠ 302), fn_miss (by decide : (404 : Int) ≠ 400), fn_miss (by decide : (404 : Int) ≠ 403), fn_hit]; rfl⟩
  by_cases h5 : s = 405
  · subst h5; exact .inr ⟨5, by rw [fn_miss (by decide : (405 : Int) ≠ 200), fn_miss (by decide : (405 : Int) ≠ 302), fn_miss (by decide : (405 : Int) ≠ 400), fn_miss (by decide : (405 : Int) ≠ 403), fn_miss (by decide : (405 : Int) ≠ 404), fn_hit]; rfl⟩
  by_cases h6 : s = 503
  · subst h6; exact .inr ⟨6, by rw [fn_miss (by decide : (503 : Int) ≠ 200), fn_miss (by decide : (503 : Int) ≠ 302), fn_miss (by decide : (503 : Int) ≠ 400), fn_miss (by decide : (503 : Int) ≠ 403), fn_miss (by decide : (503 : Int) ≠ 404), fn_miss (by decide : (503 : Int) ≠ 405), fn_hit]; rfl⟩
  refine .inl ⟨by unfold Rsp.reason; rw [if_neg h0, if_neg h1, if_neg h2, if_neg h3, if_neg h4, if_neg h5, if_neg h6], ?_⟩
  rw [fn_miss h0, fn_miss h1, fn_miss h2, fn_miss h3, fn_miss h4, fn_miss h5, fn_miss h6]
  rfl

set_option maxHeartbeats 400000 in
theorem rs_lookup (w : World) (s : Int) (hs : (Lit.int .i64 s).wf = true) :
    (Instr.lookup 67 (.map (some w.heap.size)) (.int .i64 s) false).run Tryd.prog (w.alloc (.map rsL7 7)) = .ok (.agg #[.string (S (Rsp.reason s))]) (w.alloc (.map rsL7 7)) := by
  have hb : (w.alloc (.map rsL7 7)).heap[w.heap.size]? = some (.map rsL7 7) := last_at w _
  have hu : Tryd.prog.underlying 3 = some (.int .i64) := Tryd.underlying3
  have hkey := Maps.keyOf_int_mk (P := Tryd.prog) Tryd.underlying3 hs
  have K := Maps.int_keyed (P := Tryd.prog) Tryd.underlying3
  have hz : ∀ w' : World, (zeroValue 66).run Tryd.prog w' = .ok (.agg #[.string (S [])]) w' := fun w' => by kernel_rfl
  have HF := rs_find s
  generalize w.alloc (.map rsL7 7) = W at hb ⊢
  generalize rsL7 = L at hb HF
  generalize Rsp.reason s = R at HF ⊢
  rcases HF with ⟨rfl, h1⟩ | ⟨i, h1⟩
  · have hr : (Instr.findKey 3 (.int .i64 s) L.toList).run Tryd.prog W = .ok none W := by
      simp [Instr.findKey, run_underlying hu, h1, Result.andThen]
    simp [Instr.lookup, run_underlying Tryd.underlying67, MapKept.run_getObj_map hb, K.check _ _ hkey, hr, hz, Result.andThen]
  · have hr : (Instr.findKey 3 (.int .i64 s) L.toList).run Tryd.prog W = .ok (some (i, .agg #[.string (S R)])) W := by
      simp [Instr.findKey, run_underlying hu, h1, Result.andThen]
    simp [Instr.lookup, run_underlying Tryd.underlying67, MapKept.run_getObj_map hb, K.check _ _ hkey, hr, Result.andThen]

theorem reasons_any (w : World) :
    Calls Tryd.prog 40 #[] w fun e w' => e = .returned (.map (some w.heap.size)) ∧ w' = w.alloc (.map rsL7 7) := by
  have hmm := @run_makeMap Tryd.prog
  have h0 : (Instr.mapUpdate 67 (.map (some w.heap.size)) (.int .i64 200) (.agg #[.string ⟨#[79, 75]⟩])).run Tryd.prog (w.alloc (.map #[] 0)) = .ok () (w.alloc (.map rsL1 1)) := rs_insert w rsL0 0 200 (.agg #[.string (S Rsp.t200)]) (by decide) (by rfl)
  have h1 : (Instr.mapUpdate 67 (.map (some w.heap.size)) (.int .i64 302) (.agg #[.string ⟨#[70, 111, 117, 110, 100]⟩])).run Tryd.prog (w.alloc (.map rsL1 1)) = .ok () (w.alloc (.map rsL2 2)) := rs_insert w rsL1 1 302 (.agg #[.string (S Rsp.t302)]) (by decide) (by rfl)
  have h2 : (Instr.mapUpdate 67 (.map (some w.heap.size)) (.int .i64 400) (.agg #[.string ⟨#[66, 97, 100, 32, 82, 101, 113, 117, 101, 115, 116]⟩])).run Tryd.prog (w.alloc (.map rsL2 2)) = .ok () (w.alloc (.map rsL3 3)) := rs_insert w rsL2 2 400 (.agg #[.string (S Rsp.t400)]) (by decide) (by rfl)
  have h3 : (Instr.mapUpdate 67 (.map (some w.heap.size)) (.int .i64 403) (.agg #[.string ⟨#[70, 111, 114, 98, 105, 100, 100, 101, 110]⟩])).run Tryd.prog (w.alloc (.map rsL3 3)) = .ok () (w.alloc (.map rsL4 4)) := rs_insert w rsL3 3 403 (.agg #[.string (S Rsp.t403)]) (by decide) (by rfl)
  have h4 : (Instr.mapUpdate 67 (.map (some w.heap.size)) (.int .i64 404) (.agg #[.string ⟨#[78, 111, 116, 32, 70, 111, 117, 110, 100]⟩])).run Tryd.prog (w.alloc (.map rsL4 4)) = .ok () (w.alloc (.map rsL5 5)) := rs_insert w rsL4 4 404 (.agg #[.string (S Rsp.t404)]) (by decide) (by rfl)
  have h5 : (Instr.mapUpdate 67 (.map (some w.heap.size)) (.int .i64 405) (.agg #[.string ⟨#[77, 101, 116, 104, 111, 100, 32, 78, 111, 116, 32, 65, 108, 108, 111, 119, 101, 100]⟩])).run Tryd.prog (w.alloc (.map rsL5 5)) = .ok () (w.alloc (.map rsL6 6)) := rs_insert w rsL5 5 405 (.agg #[.string (S Rsp.t405)]) (by decide) (by rfl)
  have h6 : (Instr.mapUpdate 67 (.map (some w.heap.size)) (.int .i64 503) (.agg #[.string ⟨#[83, 101, 114, 118, 105, 99, 101, 32, 85, 110, 97, 118, 97, 105, 108, 97, 98, 108, 101]⟩])).run Tryd.prog (w.alloc (.map rsL6 6)) = .ok () (w.alloc (.map rsL7 7)) := rs_insert w rsL6 6 503 (.agg #[.string (S Rsp.t503)]) (by decide) (by rfl)
  go_enter Tryd.func40, Tryd.ntmps40
  go_wp2
  go_ret
  exact ⟨rfl, rfl⟩

theorem reason_any (s : Int) (w : World) (hs : (Lit.int .i64 s).wf = true) :
    Calls Tryd.prog 15 #[.int .i64 s] w fun e w' => e = .returned (.string (S (Rsp.reason s))) ∧ w' = w.alloc (.map rsL7 7) := by
  have hl := rs_lookup w s hs
  have hfd : ∀ (x : ByteArray) (w' : World), (Instr.field 66 (.agg #[.string x]) 0).run Tryd.prog w' = .ok (.string x) w' := fun x w' => by kernel_rfl
  go_enter Tryd.func15, Tryd.ntmps15
  go_wp2_with (go_at_call 40; refine (reasons_any _).mono ?_; rintro e w' ⟨rfl, rfl⟩)
  go_ret
  exact ⟨rfl, rfl⟩
end Go.Proofs.YtehgigfngelkjaaDoor
