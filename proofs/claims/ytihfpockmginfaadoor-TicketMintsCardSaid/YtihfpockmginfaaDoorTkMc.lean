/- What package ticket's Feed does to a mint in memory. -/
import Derived.Test.YtihfpockmginfaaDoorTkMb
import Derived.ArgAppend
import Derived.Deep.AppendSrc
namespace Go.Proofs.YtihfpockmginfaaDoor
set_option maxRecDepth 8000
open Go.RowKit

theorem tape_setCells (g : Nat) : ∀ (vs : List Value) (o : Nat) (w : World), (w.setCells g o vs).tape = w.tape
  | [], _, _ => rfl
  | v :: vs, o, w => by
    rw [World.setCells, tape_setCells g vs]
    rfl
theorem size_setCells (g : Nat) : ∀ (vs : List Value) (o : Nat) (w : World), (w.setCells g o vs).heap.size = w.heap.size
  | [], _, _ => rfl
  | v :: vs, o, w => by
    rw [World.setCells, size_setCells g vs]
    simp
/-- What is put behind what a mint has left. -/
theorem feed_append (w : World) (g off cap : Nat) (R : List Nat) (hlc : R.length ≤ cap) (hcm : cap ≤ maxLen) (hgl : g < w.heap.size) (hcells : ∀ j (h : j < R.length), w.cell? ⟨g, off + j, none⟩ = some (U R[j]))
    (hspare : ∀ j, j < cap - R.length → (w.cell? ⟨g, off + R.length + j, none⟩).isSome = true ∧ w.frozen? ⟨g, off + R.length + j, none⟩ = false)
    (A : Option Addr) (c : Nat) (l : List Nat) (hU : UC w w.heap.size A l) (hn : A = none → l.length = 0 ∧ c = 0) (h63 : R.length + l.length ≤ 1099511627776) :
    ∃ g2 o2 cap2 w', (Builtin.append_ #[37, 37] 37 #[.slice (some ⟨g, off, none⟩) R.length cap, .slice A l.length c]).run Tryd.prog w = .ok (.slice (some ⟨g2, o2, none⟩) (R ++ l).length cap2) w' ∧ (R ++ l).length ≤ cap2 ∧ cap2 ≤ maxLen ∧ (g2 = g ∨ w.heap.size ≤ g2) ∧ g2 < w'.heap.size ∧
      (∀ j (h : j < (R ++ l).length), w'.cell? ⟨g2, o2 + j, none⟩ = some (U (R ++ l)[j])) ∧ KB w w' g := by
  obtain ⟨i0, hi0, hz0, hz1, hz2⟩ := info_parts Tryd.infoU64
  cases A with
  | none =>
    obtain ⟨h1, h2⟩ := hn rfl
    obtain rfl : l = [] := List.length_eq_zero_iff.1 h1
    subst h2
    have hr := run_append_room_src (P := Tryd.prog) w 37 37 37 22 i0 Tryd.underlying37 hi0 g off R.length cap (.slice none 0 0) 0 [] (Src.ofNil (P := Tryd.prog) w Tryd.underlying37 0) (by omega) (fun j hj => by simp at hj) (fun j hj => by simp at hj)
    refine ⟨g, off, cap, w, by rw [List.append_nil]; exact hr, by simpa using hlc, hcm, .inl rfl, hgl, fun j hj => ?_, ⟨rfl, rfl, rfl, Nat.le_refl _, fun _ _ _ => rfl⟩⟩
    simp only [List.append_nil]
    exact hcells j (by simpa using hj)
  | some ad =>
    have hnews : ∀ j u, (l.map U)[j]? = some u → w.cell? (ad.add j) = some u := fun j u hj => by
      have hjl : j < l.length := by
        have := (List.getElem?_eq_some_iff.1 hj).1
        simpa using this
      obtain ⟨b, o, hA, _, hcc⟩ := hU (by omega)
      cases hA
      rw [Addr.add_mid, hcc j hjl]
      simpa [hjl] using hj
    have hone : ∀ u ∈ l.map U, u.oneCell' = true := fun u hu => by
      obtain ⟨y, _, rfl⟩ := List.mem_map.1 hu
      rfl
    by_cases hroom : R.length + l.length ≤ cap
    · have hsp : ∀ j, j < (l.map U).length → (w.cell? ⟨g, off + R.length * i0.size + j, none⟩).isSome = true ∧ w.frozen? ⟨g, off + R.length * i0.size + j, none⟩ = false := fun j hj => by
        rw [hz1, Nat.mul_one]
        exact hspare j (by simp at hj; omega)
      have hr := run_append_room_cells (P := Tryd.prog) w 37 37 22 i0 Tryd.underlying37 hi0 g off R.length cap ad l.length c (l.map U) (by rw [hz1]; simp) hnews hone hroom (fun j hj => (hsp j hj).1) (fun j hj => (hsp j hj).2)
      rw [hz1, Nat.mul_one] at hr
      refine ⟨g, off, cap, _, by rw [List.length_append]; exact hr, by simpa using hroom, hcm, .inl rfl, by rw [size_setCells]; exact hgl, fun j hj => ?_, ⟨World.os_setCells .., tape_setCells .., World.output_setCells .., by rw [size_setCells]; exact Nat.le_refl _, fun i hi hne => World.heap_setCells_other w g _ _ hi hne⟩⟩
      rcases Nat.lt_or_ge j R.length with h | h
      · rw [World.cell?_setCells_out g _ _ _ _ (fun _ _ => .inl (by simp; omega)), hcells j h, List.getElem_append_left h]
      · have hjl : j - R.length < l.length := by simp at hj; omega
        have e : off + j = off + R.length + (j - R.length) := by omega
        rw [e, World.cell?_setCells_in g (l.map U) (off + R.length) w (fun q hq => (hspare q (by simp at hq; omega)).1) (j - R.length) (by simpa using hjl), List.getElem_append_right h]
        simp
    · obtain ⟨v', w', hrun, hown, hgrow⟩ := run_append_arg_grows (P := Tryd.prog) w 37 37 22 i0 (.int .u64 0) 1 8 Tryd.underlying37 hi0 hz0 hz1 hz2 rfl (by decide) ⟨g, off, none⟩ R.length cap (R.map U) (by simp) (fun j u hj => by
        have hjl : j < R.length := by
          have := (List.getElem?_eq_some_iff.1 hj).1
          simpa using this
        rw [Addr.add_mid, hcells j hjl]
        simpa [hjl] using hj) ad l.length c (l.map U) (by simp) hnews (by omega) (by unfold maxLen; omega) (by omega)
      have hown' : w'.ownsRow w.heap.size 22 1 v' (R ++ l).length ((R ++ l).map U) := by rw [List.length_append, List.map_append]; exact hown
      have hv : v' ≠ .slice none 0 0 := fun e => by
        rcases hown.2 with ⟨_, h0⟩ | ⟨_, _, _, h1, _⟩
        · omega
        · rw [e] at h1; cases h1
      obtain ⟨g2, cap2, rfl, h1, h2, h3, h4, h5, _⟩ := own_cells hown' hv
      refine ⟨g2, 0, cap2, w', hrun, h3, h4, .inr h1, h2, fun j hj => by rw [Nat.zero_add]; exact h5 j hj, ⟨hgrow.os, hgrow.tape, hgrow.output, hgrow.size, fun i hi _ => hgrow.block i hi (by simp)⟩⟩
theorem wpList_append_runs {w : World} {ops : Array Oper} {rest : List Oper} {o : Oper} {a : Act} {Q : Exit → Act → World → Prop} (hgd : o.guard = none) (s x : Operand) (t : TypeId)
    (ho : o.op = .call { callee := .builtin .append, args := #[s, x], argTypes := #[t, t] }) (v1 v2 : Value) (hs : a.eval s = v1) (hx : a.eval x = v2) (v' : Value) (w' : World)
    (hrun : (Builtin.append_ #[t, t] o.type #[v1, v2]).run Tryd.prog w = .ok v' w') (h : wpList Tryd.prog ops Q rest (a.put o.dst v') w') : wpList Tryd.prog ops Q (o :: rest) a w := by
  refine wpList_plain hgd fun K hK => ?_
  unfold Oper.wp
  simp [execOp, ho, resolve, invoke, builtin, hs, hx, hrun, Result.andThen]
  exact hK _ _ h
/-- All blocks below one number, and from another one on, are as they were. -/
structure KN (w w' : World) (base N : Nat) : Prop where
  os : w'.os = w.os
  tape : w'.tape = w.tape
  output : w'.output = w.output
  size : w.heap.size ≤ w'.heap.size
  block : ∀ i, i < w.heap.size → i < base ∨ N ≤ i → w'.heap[i]? = w.heap[i]?
set_option maxHeartbeats 800000 in
theorem feed_any (w : World) (base N P : Nat) (R : List Nat) (hM : MS w base N P R) (hPN : P < N) (A : Option Addr) (c : Nat) (l : List Nat) (hU : UC w w.heap.size A l) (hn : A = none → l.length = 0 ∧ c = 0) (h63 : R.length + l.length ≤ 1099511627776) :
    Calls Tryd.prog 20 #[.pointer (some ⟨P, 0, none⟩), .slice A l.length c] w fun e w' => e = .returned (.tuple #[]) ∧ MR w' base P (R ++ l) ∧ KN w w' base N := by
  obtain ⟨g, off, cap, hP, h1, h2, h3, h4, h5, h6, h7, h8⟩ := hM.obj
  have hlo := hM.lo
  obtain ⟨g2, o2, cap2, w1, hrun, q1, q2, q3, q4, q5, q6⟩ := feed_append w g off cap R h1 h2 h6 h7 h8 A c l hU hn h63
  have hPl : P < w.heap.size := lt_of_blk hP
  have hc := cell_of_row w P 0 _ _ _ hP
  simp only [List.getElem?_toArray, List.getElem?_cons_zero] at hc
  have hP1 := (q6.block P hPl (fun e => h3 e.symm)).trans hP
  have hc1 := cell_of_row w1 P 0 _ _ _ hP1
  have hf1 := Lib.frozen_of_heap hP1 0
  simp only [List.getElem?_toArray, List.getElem?_cons_zero] at hc1
  have hfin : MR (w1.setCell ⟨P, 0, none⟩ (.slice (some ⟨g2, o2, none⟩) (R ++ l).length cap2)) base P (R ++ l) ∧ KN w (w1.setCell ⟨P, 0, none⟩ (.slice (some ⟨g2, o2, none⟩) (R ++ l).length cap2)) base N := by
    have hg2 : g2 ≠ P := by rcases q3 with e | e <;> omega
    have hgb : base ≤ g2 := by rcases q3 with e | e <;> omega
    have ho : ∀ i, i ≠ P → (w1.setCell ⟨P, 0, none⟩ (.slice (some ⟨g2, o2, none⟩) (R ++ l).length cap2)).heap[i]? = w1.heap[i]? := fun i hi => heap_setCell_other w1 ⟨P, 0, none⟩ i _ hi
    refine ⟨⟨hlo, some ⟨g2, o2, none⟩, cap2, ?_, q1, q2, fun _ => ⟨g2, o2, rfl, hg2, hgb, by rw [World.size_setCell]; exact q4, fun j hj => ?_⟩⟩, ⟨q6.os, q6.tape, q6.output, by rw [World.size_setCell]; exact q6.size, fun i hi h => ?_⟩⟩
    · rw [heap_setCell_same w1 P 0 _ _ _ hP1]
      rfl
    · rw [World.cell?_of_block (a := ⟨g2, o2 + j, none⟩) (ho g2 hg2)]
      exact q5 j hj
    · rw [ho i (by omega)]
      exact q6.block i hi (by omega)
  have HF := Lib.hid hfin
  generalize (R ++ l).length = L at hrun HF
  clear hP hP1 hfin h7 h8 q3 q5 hU hM h5 q1 q2 q4 q6
  go_enter Tryd.func20, Tryd.ntmps20
  go_wp2_with (at_builtin; refine wpList_append_runs rfl _ _ _ rfl _ _ rfl rfl _ _ hrun ?_)
  refine bodyPost_end (results_none rfl _ _ _) rfl ?_
  exact ⟨rfl, HF.out⟩
end Go.Proofs.YtihfpockmginfaaDoor
