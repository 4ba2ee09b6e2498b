/- What slices.Clone, package ticket's New and Left, and the statements' always, yes and no answer: a mint in memory. -/
import Derived.Test.YtihfpockmginfaaDoorTkOp
import Derived.Test.YtihfpockmginfaaDoorTkBk
import Derived.Lib.SliceRun
import Derived.Deep.Upon
import Derived.Laws.AppendOwnNone
namespace Go.Proofs.YtihfpockmginfaaDoor
set_option maxRecDepth 8000
open Go.RowKit

abbrev U (x : Nat) : Value := .int .u64 (x : Int)
theorem Tryd.infoU64 : (Tryd.prog.info? 22).map (fun i => (i.zero, i.size, i.bytes)) = some (some (.int .u64 0), 1, 8) := by kernel_rfl
/-- The cells of a slice of numbers, as naturals. -/
def UC (w : World) (B : Nat) (A : Option Addr) (l : List Nat) : Prop :=
  0 < l.length → ∃ b off, A = some ⟨b, off, none⟩ ∧ b < B ∧ ∀ j (h : j < l.length), w.cell? ⟨b, off + j, none⟩ = some (U l[j])
theorem UC.at_ {w w' : World} {A : Option Addr} {l : List Nat} (h : UC w w.heap.size A l) (hb : Below w.heap.size w w') : UC w' w'.heap.size A l := fun hl => by
  obtain ⟨b, off, hA, hlt, hc⟩ := h hl
  exact ⟨b, off, hA, Nat.lt_of_lt_of_le hlt hb.size, fun j hj => (hb.cell (p := ⟨b, off + j, none⟩) hlt).trans (hc j hj)⟩
/-- 'append' of a slice that came in, nil or not, onto one of the call's own. -/
theorem wpList_append_opt {w : World} {ops : Array Oper} {rest : List Oper} {o : Oper} {a : Act} {Q : Exit → Act → World → Prop} (hgd : o.guard = none) (s x : Operand)
    (ho : o.op = .call { callee := .builtin .append, args := #[s, x], argTypes := #[37, 37] }) (base : Nat) (v : Value) (xs : List Nat) (hs : a.eval s = v) (hown : w.ownsRow base 22 1 v xs.length (xs.map U))
    (A : Option Addr) (c : Nat) (l : List Nat) (hx : a.eval x = .slice A l.length c) (hc : UC w w.heap.size A l) (hn : A = none → l.length = 0 ∧ c = 0) (h63 : xs.length + l.length ≤ 1099511627776) (hbase : base ≤ w.heap.size) (hvn : v ≠ .slice none 0 0)
    (h : ∀ v' w', w'.ownsRow base 22 1 v' (xs ++ l).length ((xs ++ l).map U) → w.grownBy w' v.ownBlock → v' ≠ .slice none 0 0 → wpList Tryd.prog ops Q rest (a.put o.dst v') w') : wpList Tryd.prog ops Q (o :: rest) a w := by
  obtain ⟨i0, hi0, hz0, hz1, hz2⟩ := info_parts Tryd.infoU64
  cases A with
  | none =>
    obtain ⟨h1, h2⟩ := hn rfl
    obtain rfl : l = [] := List.length_eq_zero_iff.1 h1
    subst h2
    refine wpList_append_own_none hgd s x 37 ho base 22 i0 1 Tryd.underlying37 hi0 v _ _ hs hown hx ?_
    exact h v w (by rw [List.append_nil]; exact hown) ⟨rfl, rfl, rfl, Nat.le_refl _, fun _ _ _ => rfl⟩ hvn
  | some ad =>
    refine wpList_append_own w hgd s x 37 ho base 22 i0 (.int .u64 0) 1 8 Tryd.underlying37 hi0 hz0 hz1 hz2 rfl (by decide) v _ _ hs hown ad l.length c (l.map U) hx (by simp) ?_ ?_ (by unfold maxLen; omega) (by omega) hbase ?_
    · intro j u hj
      have hjl : j < l.length := by
        have := (List.getElem?_eq_some_iff.1 hj).1
        simpa using this
      obtain ⟨b, off, hA, _, hcc⟩ := hc (by omega)
      cases hA
      rw [Addr.add_mid, hcc j hjl]
      simpa [hjl] using hj
    · intro u hu
      obtain ⟨y, _, rfl⟩ := List.mem_map.1 hu
      rfl
    · intro v' w' h1 h2 h3
      refine h v' w' (by rw [List.length_append, List.map_append]; exact h1) h2 (fun e => hvn (h3.1 e).1)
theorem own_cells {w : World} {base : Nat} {v : Value} {l : List Nat} (h : w.ownsRow base 22 1 v l.length (l.map U)) (hv : v ≠ .slice none 0 0) : ∃ g cap, v = .slice (some ⟨g, 0, none⟩) l.length cap ∧ base ≤ g ∧ g < w.heap.size ∧ l.length ≤ cap ∧ cap ≤ maxLen ∧ (∀ j (hj : j < l.length), w.cell? ⟨g, j, none⟩ = some (U l[j])) ∧ ∀ j, j < cap → (w.cell? ⟨g, j, none⟩).isSome = true ∧ w.frozen? ⟨g, j, none⟩ = false := by
  have hcl := fun g' hg' => World.ownsRow.cells h (g := g') hg'
  rcases h.2 with ⟨h1, _⟩ | ⟨g, cap, cur, hv', hbase, hg, hlc, hcm, hcs, _⟩
  · exact absurd h1 hv
  · refine ⟨g, cap, hv', hbase, lt_of_blk hg, hlc, hcm, fun j hj => ?_, fun j hj => ?_⟩
    · subst hv'
      have := hcl g rfl j (U l[j]) (by simp [hj])
      rwa [Addr.add_mid, Nat.zero_add] at this
    · constructor
      · rw [cell_of_row _ _ _ _ _ _ hg]
        simp [hcs, hj]
      · exact Lib.frozen_of_heap hg j

set_option maxHeartbeats 800000 in
theorem clone_any (g c : Nat) (l : List Nat) (w : World) (hl : l.length ≤ 1099511627776) (hg : g < w.heap.size) (hc : ∀ j (h : j < l.length), w.cell? ⟨g, j, none⟩ = some (U l[j])) :
    Calls Tryd.prog 29 #[.slice (some ⟨g, 0, none⟩) l.length c] w fun e w' => ∃ v', e = .returned v' ∧ w'.ownsRow w.heap.size 22 1 v' l.length (l.map U) ∧ v' ≠ .slice none 0 0 ∧ Below w.heap.size w w' := by
  have q22 : ∀ (w : World) (a : Option Addr) (n c n' c' : Nat), (binOp .eql 37 (.slice a n c) (.slice none n' c')).run Tryd.prog w = .ok (.bool a.isNone) w := fun w a n c n' c' => Lib.run_eql_slice_nil w _ _ a n c n' c' Tryd.underlying37
  have hU : UC w w.heap.size (some ⟨g, 0, none⟩) l := fun _ => ⟨g, 0, rfl, hg, fun j hj => by rw [Nat.zero_add]; exact hc j hj⟩
  have HU := Lib.hid (fun o => hU.at_ ((Below.refl w.heap.size w).alloc (Nat.le_refl _) o))
  clear hU hc
  go_enter Tryd.func29, Tryd.ntmps29
  go_wp2_with (at_builtin; refine wpList_append_opt rfl _ _ rfl w.heap.size (.slice (some ⟨w.heap.size, 0, none⟩) 0 0) [] rfl (World.ownsRow_made w #[] 0 (Nat.le_refl _) (Nat.zero_le _) rfl) (some ⟨g, 0, none⟩) c l rfl (HU.out _) (fun h => by cases h) (by simpa using hl) (by simp) (fun h => by cases h) ?_; intro v' w1 hown hgrow hnil)
  go_ret
  rw [List.nil_append] at hown
  exact ⟨v', rfl, hown, hnil, ((Below.refl _ w).alloc (Nat.le_refl _) _).grown hgrow (by simp) (by intro k hk; simp [Value.ownBlock] at hk; omega)⟩

/-- A mint in memory: what it has left can be read. -/
structure MR (w : World) (base P : Nat) (R : List Nat) : Prop where
  lo : base ≤ P
  obj : ∃ A cap, w.heap[P]? = some (.cells #[.slice A R.length cap] 61 (0, 0)) ∧ R.length ≤ cap ∧ cap ≤ maxLen ∧ (0 < R.length → ∃ g off, A = some ⟨g, off, none⟩ ∧ g ≠ P ∧ base ≤ g ∧ g < w.heap.size ∧ ∀ j (h : j < R.length), w.cell? ⟨g, off + j, none⟩ = some (U R[j]))
/-- And more can be put behind it; its row lies in a block below N. -/
structure MS (w : World) (base N P : Nat) (R : List Nat) : Prop where
  lo : base ≤ P
  obj : ∃ g off cap, w.heap[P]? = some (.cells #[.slice (some ⟨g, off, none⟩) R.length cap] 61 (0, 0)) ∧ R.length ≤ cap ∧ cap ≤ maxLen ∧ g ≠ P ∧ base ≤ g ∧ g < N ∧ g < w.heap.size ∧ (∀ j (h : j < R.length), w.cell? ⟨g, off + j, none⟩ = some (U R[j])) ∧ ∀ j, j < cap - R.length → (w.cell? ⟨g, off + R.length + j, none⟩).isSome = true ∧ w.frozen? ⟨g, off + R.length + j, none⟩ = false
theorem MS.reads {w : World} {base N P : Nat} {R : List Nat} (h : MS w base N P R) : MR w base P R := by
  obtain ⟨g, off, cap, h1, h2, h3, h4, h5, _, h6, h7, _⟩ := h.obj
  exact ⟨h.lo, _, cap, h1, h2, h3, fun _ => ⟨g, off, rfl, h4, h5, h6, h7⟩⟩
/-- All blocks but one are as they were. -/
structure KB (w w' : World) (P : Nat) : Prop where
  os : w'.os = w.os
  tape : w'.tape = w.tape
  output : w'.output = w.output
  size : w.heap.size ≤ w'.heap.size
  block : ∀ i, i < w.heap.size → i ≠ P → w'.heap[i]? = w.heap[i]?
theorem KB.cell {w w' : World} {P : Nat} (h : KB w w' P) {b o : Nat} (hb : b < w.heap.size) (hP : b ≠ P) : w'.cell? ⟨b, o, none⟩ = w.cell? ⟨b, o, none⟩ := by
  unfold World.cell?
  rw [h.block b hb hP]
theorem KB.below {w0 w w' : World} {B P : Nat} (hb : Below B w0 w) (h : KB w w' P) (hP : B ≤ P) (hB : B ≤ w.heap.size) : Below B w0 w' :=
  hb.trans ⟨h.os, h.tape, h.output, h.size, fun k hk => h.block k (by omega) (by omega)⟩
theorem KB.of_below {w w' : World} {P : Nat} (h : Below w.heap.size w w') : KB w w' P := ⟨h.os, h.tape, h.output, h.size, fun i hi _ => h.block i hi⟩

set_option maxHeartbeats 800000 in
theorem new_any (g c : Nat) (l : List Nat) (w : World) (hl : l.length ≤ 1099511627776) (hg : g < w.heap.size) (hc : ∀ j (h : j < l.length), w.cell? ⟨g, j, none⟩ = some (U l[j])) :
    Calls Tryd.prog 19 #[.slice (some ⟨g, 0, none⟩) l.length c] w fun e w' => ∃ P, e = .returned (.pointer (some ⟨P, 0, none⟩)) ∧ MS w' w.heap.size w'.heap.size P l ∧ P < w'.heap.size ∧ Below w.heap.size w w' := by
  have hC := clone_any g c l w hl hg hc
  go_enter Tryd.func19, Tryd.ntmps19
  go_wp2_with (go_at_call 29; refine hC.mono ?_; rintro e w1 ⟨v, rfl, hown, hv, hb⟩; obtain ⟨g', cap, rfl, h1, h2, h3, h4, h5, h6⟩ := own_cells hown hv)
  go_ret
  have hg2 : g' < (w1.alloc (.cells #[.slice (some ⟨g', 0, none⟩) l.length cap] 61)).heap.size := by simp; omega
  refine ⟨w1.heap.size, rfl, ⟨hb.size, g', 0, cap, heap_alloc_new w1 _, h3, h4, by omega, h1, hg2, hg2, fun j hj => ?_, fun j hj => ?_⟩, by simp, hb.alloc hb.size _⟩
  · rw [Nat.zero_add]
    exact (((Below.refl w1.heap.size w1).alloc (Nat.le_refl _) _).cell (p := ⟨g', j, none⟩) h2).trans (h5 j hj)
  · have hq := h6 (l.length + j) (by omega)
    have e := ((Below.refl w1.heap.size w1).alloc (Nat.le_refl _) (.cells #[.slice (some ⟨g', 0, none⟩) l.length cap] 61)).block g' h2
    rw [Nat.zero_add]
    exact ⟨by rw [World.cell?_of_block (a := ⟨g', l.length + j, none⟩) e]; exact hq.1, by rw [World.frozen?_of_block (a := ⟨g', l.length + j, none⟩) e]; exact hq.2⟩
theorem left_any (P base : Nat) (R : List Nat) (w : World) (hM : MR w base P R) :
    Calls Tryd.prog 23 #[.pointer (some ⟨P, 0, none⟩)] w fun e w' => e = .returned (.int .i64 (R.length : Int)) ∧ w' = w := by
  obtain ⟨A, cap, hP, _⟩ := hM.obj
  have hc := cell_of_row w P 0 _ _ _ hP
  clear hP hM
  simp only [List.getElem?_toArray, List.getElem?_cons_zero] at hc
  go_enter Tryd.func23, Tryd.ntmps23
  go_wp2
  go_ret
  exact ⟨rfl, rfl⟩
theorem yes_any (x : ByteArray) (w : World) : Calls Tryd.prog 30 #[.string x] w fun e w' => e = .returned (.bool true) ∧ w' = w := by
  go_enter Tryd.func30, Tryd.ntmps30
  go_wp2
  go_ret
  exact ⟨rfl, rfl⟩
theorem no_any (x : ByteArray) (w : World) : Calls Tryd.prog 31 #[.string x] w fun e w' => e = .returned (.bool false) ∧ w' = w := by
  go_enter Tryd.func31, Tryd.ntmps31
  go_wp2
  go_ret
  exact ⟨rfl, rfl⟩
end Go.Proofs.YtihfpockmginfaaDoor
