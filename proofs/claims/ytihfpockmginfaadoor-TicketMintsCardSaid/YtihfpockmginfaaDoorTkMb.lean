/- What package ticket's Next answers of a mint in memory. -/
import Derived.Test.YtihfpockmginfaaDoorTkMa
namespace Go.Proofs.YtihfpockmginfaaDoor
set_option maxRecDepth 8000
open Go.RowKit

def fnV (b : Bool) : Value := .func (.func (if b then 30 else 31)) #[] #[]
theorem next_kind (kind : Int) (hk : preI kind = []) (P : Nat) (F : Value) (w : World) (hE : EnvT w) :
    Calls Tryd.prog 21 #[.pointer (some ⟨P, 0, none⟩), .int .i64 kind, F] w fun e w' => e = .returned (.tuple #[.string ⟨#[]⟩, .int .i64 8]) ∧ w' = w := by
  have hP := prefix_any kind w hE
  rw [hk] at hP
  have hS : (S []).toList.isEmpty = true := by rw [S_empty]; rfl
  go_enter Tryd.func21, Tryd.ntmps21
  go_wp2_with (go_at_call 13; refine hP.mono ?_; rintro e w' ⟨rfl, rfl⟩)
  go_ret2
  exact ⟨rfl, rfl⟩
theorem pre_nonempty {k : Nat} (h1 : 1 ≤ k) (h6 : k ≤ 6) : (S (Tk.pre k)).toList.isEmpty = false := by
  rw [S_empty, pre_empty h6]
  simp
  omega
theorem next_none (k : Nat) (h1 : 1 ≤ k) (h6 : k ≤ 6) (P base : Nat) (F : Value) (w : World) (hE : EnvT w) (hM : MR w base P []) :
    Calls Tryd.prog 21 #[.pointer (some ⟨P, 0, none⟩), .int .i64 (k : Int), F] w fun e w' => e = .returned (.tuple #[.string ⟨#[]⟩, .int .i64 6]) ∧ w' = w := by
  have hP := prefix_any (k : Int) w hE
  rw [preI_nat] at hP
  have hS := pre_nonempty h1 h6
  obtain ⟨A, cap, hPb, _⟩ := hM.obj
  have hc := cell_of_row w P 0 _ _ _ hPb
  clear hPb hM
  simp only [List.getElem?_toArray, List.getElem?_cons_zero, List.length_nil] at hc
  generalize S (Tk.pre k) = X at hP hS
  go_enter Tryd.func21, Tryd.ntmps21
  go_wp2_with (go_at_call 13; refine hP.mono ?_; rintro e w' ⟨rfl, rfl⟩)
  go_ret2
  exact ⟨rfl, rfl⟩
/-- The slice without its first element, and what is known of it. -/
theorem step_slice (g off n cap : Nat) (h : n + 1 ≤ cap) (hm : cap ≤ maxLen) : ∃ off', (∀ W, (Instr.sliceAt 37 (.slice (some ⟨g, off, none⟩) (n + 1) cap) (some (.int .i64 1)) none none).run Tryd.prog W = .ok (.slice (some ⟨g, off', none⟩) n (cap - 1)) W) ∧ (0 < cap - 1 → off' = off + 1) := by
  have e8 : (Tryd.prog.info? 22).map (·.size) = some 1 := by kernel_rfl
  by_cases h0 : cap = 1
  · subst h0
    have : n = 0 := by omega
    subst this
    refine ⟨off, fun W => ?_, fun h => absurd h (by omega)⟩
    rw [run_sliceAt_slice W _ _ _ _ _ (by kernel_rfl), run_slice_l W 37 (some ⟨g, off, none⟩) (0 + 1) 1 (by kernel_rfl) .i64 1 (by omega) (by omega)]
    go_simp
  · refine ⟨off + 1, fun W => ?_, fun _ => rfl⟩
    rw [run_sliceAt_slice W _ _ _ _ _ (by kernel_rfl), run_slice_l W 37 (some ⟨g, off, none⟩) (n + 1) cap (by kernel_rfl) .i64 1 (by omega) (by omega)]
    have hn0 : ¬ (cap - 1 = 0) := by omega
    go_simp
set_option maxHeartbeats 1600000 in
theorem next_draw (k : Nat) (h1 : 1 ≤ k) (h6 : k ≤ 6) (P d : Nat) (R : List Nat) (hd : d < 18446744073709551616) (is : Bool) (w0 w : World) (hE : EnvT w0) (hb : Below w0.heap.size w0 w) (hM : MR w w0.heap.size P (d :: R)) :
    Calls Tryd.prog 21 #[.pointer (some ⟨P, 0, none⟩), .int .i64 (k : Int), fnV is] w fun e w' => e = .returned (if is then .tuple #[.string ⟨#[]⟩, .int .i64 7] else .tuple #[.string (S (Tk.name k d)), .int .i64 0]) ∧ MR w' w0.heap.size P R ∧ (∀ N, MS w w0.heap.size N P (d :: R) → MS w' w0.heap.size N P R) ∧ KB w w' P := by
  have hEw := hE.next hb
  have hP := (prefix_any (k : Int) w hEw).mono fun _ _ ⟨a, b⟩ => And.intro a b.symm
  rw [preI_nat] at hP
  have hS := pre_nonempty h1 h6
  generalize S (Tk.pre k) = X at hP hS
  obtain ⟨A, cap, hPb, hlc, hcm, hA⟩ := hM.obj
  obtain ⟨g, off, rfl, hgP, hgb, hgl, hcells⟩ := hA (by simp)
  have hlo := hM.lo
  have hc := cell_of_row w P 0 _ _ _ hPb
  have hf := Lib.frozen_of_heap hPb 0
  simp only [List.getElem?_toArray, List.getElem?_cons_zero, List.length_cons] at hc
  have hc0 := hcells 0 (by simp)
  rw [Nat.add_zero] at hc0
  simp only [List.getElem_cons_zero] at hc0
  obtain ⟨o', hsl, hA'⟩ := step_slice g off R.length cap (by simpa using hlc) hcm
  have hlt : P < w.heap.size := lt_of_blk hPb
  have hw6 : Below w0.heap.size w0 (w.setCell ⟨P, 0, none⟩ (.slice (some ⟨g, o', none⟩) R.length (cap - 1))) := hb.setCell hlo _
  have hset : (w.setCell ⟨P, 0, none⟩ (.slice (some ⟨g, o', none⟩) R.length (cap - 1))).heap[P]? = some (.cells #[.slice (some ⟨g, o', none⟩) R.length (cap - 1)] 61 (0, 0)) := by
    rw [heap_setCell_same w P 0 _ _ _ hPb]
    rfl
  have hoth : ∀ i, i ≠ P → (w.setCell ⟨P, 0, none⟩ (.slice (some ⟨g, o', none⟩) R.length (cap - 1))).heap[i]? = w.heap[i]? := fun i hi => heap_setCell_other w ⟨P, 0, none⟩ i _ hi
  have hsz : (w.setCell ⟨P, 0, none⟩ (.slice (some ⟨g, o', none⟩) R.length (cap - 1))).heap.size = w.heap.size := World.size_setCell ..
  have hKB0 : KB w (w.setCell ⟨P, 0, none⟩ (.slice (some ⟨g, o', none⟩) R.length (cap - 1))) P := ⟨rfl, rfl, rfl, by rw [hsz]; exact Nat.le_refl _, fun i _ hi => hoth i hi⟩
  have hN := fun w' h => name_any (k : Int) d hd w' h
  rw [nameV_good h1 h6] at hN
  generalize Tk.name k d = nm at hN ⊢
  have HP := Lib.hid hPb
  have HM := Lib.hid hM
  have HC := Lib.hid hcells
  have HA := Lib.hid hA'
  clear hPb hM hcells hA'
  have key : ∀ w', Below (w.setCell ⟨P, 0, none⟩ (.slice (some ⟨g, o', none⟩) R.length (cap - 1))).heap.size (w.setCell ⟨P, 0, none⟩ (.slice (some ⟨g, o', none⟩) R.length (cap - 1))) w' → MR w' w0.heap.size P R ∧ (∀ N, MS w w0.heap.size N P (d :: R) → MS w' w0.heap.size N P R) ∧ KB w w' P := fun w' hq => by
    have hblk : ∀ i, i < w.heap.size → i ≠ P → w'.heap[i]? = w.heap[i]? := fun i hi hne => (hq.block i (by rw [hsz]; exact hi)).trans (hoth i hne)
    have hPn := (hq.block P (by rw [hsz]; exact hlt)).trans hset
    have hK : KB w w' P := ⟨hq.os, hq.tape, hq.output, by have := hq.size; rw [hsz] at this; exact this, hblk⟩
    have hcp : 0 < R.length → o' = off + 1 := fun h => HA.out (by simp at hlc; omega)
    refine ⟨⟨hlo, some ⟨g, o', none⟩, cap - 1, hPn, by simp at hlc; omega, by omega, fun hp => ⟨g, o', rfl, hgP, hgb, Nat.lt_of_lt_of_le hgl hK.size, fun j hj => ?_⟩⟩, fun N hS => ?_, hK⟩
    · rw [hK.cell hgl hgP]
      have := HC.out (j + 1) (by simp; omega)
      rw [hcp hp, show off + 1 + j = off + (j + 1) by omega, this]
      rfl
    · obtain ⟨g2, o2, cap2, e1, e2, e3, e4, e5, e6, e7, e8, e9⟩ := hS.obj
      rw [HP.out] at e1
      simp only [Option.some.injEq, Obj.cells.injEq, Array.mk.injEq, List.cons.injEq, Value.slice.injEq, Addr.mk.injEq, and_true, true_and] at e1
      obtain ⟨⟨rfl, rfl⟩, rfl⟩ := e1
      refine ⟨hlo, g, o', cap - 1, hPn, by simp at hlc; omega, by omega, hgP, hgb, e6, Nat.lt_of_lt_of_le hgl hK.size, fun j hj => ?_, fun j hj => ?_⟩
      · rw [hK.cell hgl hgP, hcp (by omega), show off + 1 + j = off + (j + 1) by omega]
        exact e8 (j + 1) (by simp; omega)
      · have hq2 := e9 j (by simp; omega)
        have hbk := hK.block g hgl hgP
        have ho : o' = off + 1 := HA.out (by omega)
        rw [show off + (d :: R).length + j = o' + R.length + j by simp; omega] at hq2
        exact ⟨by rw [World.cell?_of_block (a := ⟨g, o' + R.length + j, none⟩) hbk]; exact hq2.1, by rw [World.frozen?_of_block (a := ⟨g, o' + R.length + j, none⟩) hbk]; exact hq2.2⟩
  have KEY := Lib.hid key
  clear key hset hoth hsz hKB0
  cases is with
  | true =>
    have hfv : fnV true = .func (.func 30) #[] #[] := rfl
    rw [hfv]
    go_enter Tryd.func21, Tryd.ntmps21
    go_upto_region 7 with (go_at_call 13; refine hP.mono ?_; rintro e w' ⟨rfl, rfl⟩)
    generalize w.setCell ⟨P, 0, none⟩ (.slice (some ⟨g, o', none⟩) R.length (cap - 1)) = w6 at hw6 KEY ⊢
    go_wp2_with (first
      | (go_at_call 9; refine (hN _ (hE.next hw6)).mono ?_; rintro e w7 ⟨rfl, hq⟩)
      | (go_at_call 30; refine (yes_any _ _).mono ?_; rintro e w' ⟨rfl, rfl⟩))
    go_ret2
    exact ⟨rfl, KEY.out _ hq⟩
  | false =>
    have hfv : fnV false = .func (.func 31) #[] #[] := rfl
    rw [hfv]
    go_enter Tryd.func21, Tryd.ntmps21
    go_upto_region 7 with (go_at_call 13; refine hP.mono ?_; rintro e w' ⟨rfl, rfl⟩)
    generalize w.setCell ⟨P, 0, none⟩ (.slice (some ⟨g, o', none⟩) R.length (cap - 1)) = w6 at hw6 KEY ⊢
    go_wp2_with (first
      | (go_at_call 9; refine (hN _ (hE.next hw6)).mono ?_; rintro e w7 ⟨rfl, hq⟩)
      | (go_at_call 31; refine (no_any _ _).mono ?_; rintro e w' ⟨rfl, rfl⟩))
    go_ret2
    exact ⟨rfl, KEY.out _ hq⟩
end Go.Proofs.YtihfpockmginfaaDoor
