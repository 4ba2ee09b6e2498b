/- What copyCheck, WriteString and String of a strings.Builder that a call has made itself do, up to 2^40 bytes; blocks of other types stay. -/
import Derived.Test.YtpleaopefngafaaDoorCa
import Derived.Lib.Walk
import Derived.Lib.Builder
import Derived.Lib.AppendStr
import Derived.Lib.UnsafeStr
namespace Go.Proofs.YtpleaopefngafaaDoor
set_option maxRecDepth 8000
open Go.RowKit

theorem Tryd.infoBuilder : (Tryd.prog.info? 47).map (·.size) = some 2 := by kernel_rfl
theorem Tryd.liesBuilder : liesAt Tryd.prog Tryd.prog.depth 47 (2 / Tryd.prog.cellsOf 47) 0 47 1 = true := by kernel_rfl
theorem Tryd.cellsOfByte : Tryd.prog.cellsOf 5 = 1 := by kernel_rfl

abbrev BAt (base b : Nat) (p : Value) (bs : List Value) (w : World) : Prop := Lib.BuilderAt 47 5 base b p bs w

/-- Blocks of other types than bytes and builders stay as they are. -/
def Keeps2 (w w' : World) : Prop := ∀ (g : Nat) (cs : Array Value) (t : TypeId), t ≠ 5 → t ≠ 47 → w.heap[g]? = some (.cells cs t (0, 0)) → w'.heap[g]? = some (.cells cs t (0, 0))
theorem blk_lt {w1 : World} {b : Nat} {o : Obj} (hbk : w1.heap[b]? = some o) : b < w1.heap.size := by
  rcases Nat.lt_or_ge b w1.heap.size with h' | h'
  · exact h'
  · rw [Array.getElem?_eq_none h'] at hbk; cases hbk
theorem Keeps2.refl (w : World) : Keeps2 w w := fun _ _ _ _ _ h => h
theorem Keeps2.trans {w w1 w2 : World} (h : Keeps2 w w1) (k : Keeps2 w1 w2) : Keeps2 w w2 := fun g cs t h1 h2 hg => k g cs t h1 h2 (h g cs t h1 h2 hg)
theorem keeps_alloc (w : World) (o : Obj) : Keeps2 w (w.alloc o) := fun g _ _ _ _ h => (Below.heap_alloc w o g (blk_lt h)).trans h
theorem keeps_below {w w' : World} (hb : Below w.heap.size w w') : Keeps2 w w' := fun g _ _ _ _ h => (hb.block g (blk_lt h)).trans h
theorem keeps_set {w : World} {b i : Nat} {cs : Array Value} {fr : Nat × Nat} (hbk : w.heap[b]? = some (.cells cs 47 fr)) (u : Value) : Keeps2 w (w.setCell ⟨b, i, none⟩ u) := fun g cs' t h1 h2 h => by
  have hne : g ≠ b := by
    rintro rfl
    rw [hbk] at h
    injection h with h
    injection h with _ h _
    exact h2 h.symm
  exact (Below.heap_setCell w ⟨b, i, none⟩ u g hne).trans h
theorem keeps_grown {w w' : World} {base n : Nat} {v : Value} {xs : List Value} (hown : w.ownsRow base 5 1 v n xs) (hg : w.grownBy w' v.ownBlock) : Keeps2 w w' := fun g cs t h1 h2 h => by
  refine (hg.block g (blk_lt h) ?_).trans h
  intro e
  rcases hown.2 with ⟨rfl, _⟩ | ⟨g', cap, cur, rfl, _, hh, _⟩
  · simp [Value.ownBlock] at e
  · have : g = g' := by simpa [Value.ownBlock] using e
    subst this
    rw [hh] at h
    injection h with h
    injection h with _ h _
    exact h1 h.symm

set_option maxHeartbeats 400000 in
theorem copyCheck_used (b : Nat) (w : World) (h0 : w.cell? ⟨b, 0, none⟩ = some (.pointer (some ⟨b, 0, none⟩))) :
    Calls Tryd.prog 45 #[.pointer (some ⟨b, 0, none⟩)] w fun e w' => e = .returned (.tuple #[]) ∧ w = w' := by
  obtain ⟨j, hj, _⟩ := Option.map_eq_some_iff.1 Tryd.infoBuilder
  have hneq := Lib.run_neq_ptr_same (P := Tryd.prog) w (⟨b, 0, none⟩ : Addr) Tryd.underlying44 hj
  go_enter Tryd.func45, Tryd.ntmps45
  go_wp2
  go_end0
  exact ⟨rfl, rfl⟩

set_option maxHeartbeats 400000 in
theorem copyCheck_fresh (b : Nat) (w : World) (h0 : w.cell? ⟨b, 0, none⟩ = some (.pointer none)) (hsh : w.shape? b = some (47, 2)) (hfz : w.frozen? ⟨b, 0, none⟩ = false) :
    Calls Tryd.prog 45 #[.pointer (some ⟨b, 0, none⟩)] w fun e w' => e = .returned (.tuple #[]) ∧ w' = w.setCell ⟨b, 0, none⟩ (.pointer (some ⟨b, 0, none⟩)) := by
  obtain ⟨j, hj, hjs⟩ := Option.map_eq_some_iff.1 Tryd.infoBuilder
  go_enter Tryd.func45, Tryd.ntmps45
  go_wp2
  rw [Lib.run_to_unsafe w ⟨b, 0, none⟩ Tryd.underlying44 Tryd.underlying84 hj (by rw [hjs]; decide) hsh (Nat.zero_lt_succ 1)]
  simp only [Result.andThen]
  rw [Oper.upon_value]
  go_wp2
  rw [run_callFunc_extern Tryd.func59 (by kernel_rfl) (by kernel_rfl) (by kernel_rfl) (e := Extern.AbiNoEscape.same) (by kernel_rfl)]
  rw [Lib.run_noEscape]
  simp only [Result.andThen]
  rw [Oper.upon_value]
  go_wp2
  rw [Lib.run_from_unsafe w ⟨b, 0, none⟩ Tryd.underlying84 Tryd.underlying44 hj hsh Tryd.liesBuilder]
  simp only [Result.andThen]
  rw [Oper.upon_value]
  go_wp2
  go_end0
  exact ⟨rfl, rfl⟩

theorem copyCheck_any (base b : Nat) (bs : List Value) (w : World) (h : Lib.IsBuilder 47 5 base b bs w) :
    Calls Tryd.prog 45 #[.pointer (some ⟨b, 0, none⟩)] w fun e w' => e = .returned (.tuple #[]) ∧ BAt base b (.pointer (some ⟨b, 0, none⟩)) bs w' ∧ Below base w w' ∧ Keeps2 w w' := by
  rcases h with h | h
  · refine (copyCheck_fresh b w h.cell0 h.shape h.frozen0).mono ?_
    rintro e w' ⟨rfl, rfl⟩
    obtain ⟨_, _, hbk, _⟩ := id h
    exact ⟨rfl, h.used _, (Below.refl base w).setCell (p := ⟨b, 0, none⟩) h.1 _, keeps_set hbk _⟩
  · refine (copyCheck_used b w h.cell0).mono ?_
    rintro e w' ⟨rfl, rfl⟩
    exact ⟨rfl, h, Below.refl base _, Keeps2.refl _⟩

/-- A builder in block b, one of the call's own, that holds the bytes l. -/
def Bld (base b : Nat) (l : List UInt8) (w : World) : Prop := Lib.IsBuilder 47 5 base b (l.map B) w


set_option maxHeartbeats 400000 in
theorem writeString_any (base b : Nat) (l s : List UInt8) (w : World) (h : Bld base b l w) (hlen : l.length + s.length ≤ 1099511627776) (hbase : base ≤ w.heap.size) :
    Calls Tryd.prog 32 #[.pointer (some ⟨b, 0, none⟩), .string (S s)] w fun e w' => e = .returned (.tuple #[.int .i64 ((S s).size : Int), .nilIface]) ∧ Bld base b (l ++ s) w' ∧ Below base w w' ∧ Keeps2 w w' := by
  obtain ⟨i0, hi0, hz0, hz1, hz2⟩ := info_parts Tryd.infoByte
  have hss : (S s).size = s.length := rfl
  have h63 : l.length + (S s).size ≤ maxLen := by unfold maxLen; omega
  have h47 : l.length + (S s).size ≤ 140737488355328 := by omega
  clear hss
  go_enter Tryd.func32, Tryd.ntmps32
  go_wp2_with fail
  refine (copyCheck_any base b (l.map B) w h).mono ?_
  rintro e w1 ⟨rfl, h1, hb1, hk1⟩
  obtain ⟨hB, v, hbk, hown0, hne⟩ := h1
  have hown : w1.ownsRow base 5 1 v l.length (l.map B) := by rw [List.length_map] at hown0; exact hown0
  have hb1s : base ≤ w1.heap.size := Nat.le_trans hbase hb1.size
  have c0 : w1.cell? ⟨b, 0, none⟩ = some (.pointer (some ⟨b, 0, none⟩)) := by rw [Lib.cell_of_heap hbk]; rfl
  have c1 : w1.cell? ⟨b, 1, none⟩ = some v := by rw [Lib.cell_of_heap hbk]; rfl
  have hlt := blk_lt hbk
  clear hown0
  have HBK := Lib.hid hbk
  clear hbk
  go_wp2_with (at_builtin; refine Lib.wpList_append_own_string _ rfl (.tmp 12) (.tmp 13) 45 9 rfl base 5 i0 Tryd.underlying45 Tryd.underlying9 hi0 hz0 hz1 hz2 v l.length (l.map B) rfl hown (S s) rfl h63 h47 hb1s ?_; intro v' w2 hown2 hgrow hnil; have hb2 : w2.heap[b]? = some (.cells #[.pointer (some ⟨b, 0, none⟩), v] 47 (0, 0)) := (by rw [hgrow.block b hlt (fun e => hne e.symm)]; exact HBK.out); have d0 : w2.cell? ⟨b, 0, none⟩ = some (.pointer (some ⟨b, 0, none⟩)) := (by rw [Lib.cell_of_heap hb2]; rfl); have d1 : w2.cell? ⟨b, 1, none⟩ = some v := (by rw [Lib.cell_of_heap hb2]; rfl); have f1 : w2.frozen? ⟨b, 1, none⟩ = false := Lib.frozen_of_heap hb2 1; have HB2 := Lib.hid hb2; clear hb2 hnil; obtain ⟨ao, n', cap, hv'⟩ : ∃ ao n' cap, v' = .slice ao n' cap := (by rcases hown2.2 with ⟨hv, _⟩ | ⟨g, cap, cur, hv, _⟩; exact ⟨_, _, _, hv⟩; exact ⟨_, _, _, hv⟩); subst hv')
  go_ret2
  refine ⟨rfl, .inr ?_, ?_, ?_⟩
  · exact Lib.BuilderAt.put (T := 47) (e := 5) hB HB2.out (bs' := (l ++ s).map B) (by rw [List.length_map, List.length_append, List.map_append]; exact hown2) (by decide)
  · exact (hb1.grown hgrow hb1s (fun k hk => (hown.lt k hk).1)).setCell (p := ⟨b, 1, none⟩) hB _
  · exact (hk1.trans (keeps_grown hown hgrow)).trans (keeps_set HB2.out _)

theorem Bld.below {base b : Nat} {l : List UInt8} {w w' : World} (h : Bld base b l w) (hb : Below w.heap.size w w') : Bld base b l w' := by
  have go : ∀ p, BAt base b p (l.map B) w → BAt base b p (l.map B) w' := by
    rintro p ⟨hB, v, hbk, hown, hne⟩
    refine ⟨hB, v, (hb.block b (blk_lt hbk)).trans hbk, ?_, hne⟩
    refine ⟨hown.1, ?_⟩
    rcases hown.2 with h1 | ⟨g, cap, cur, hv, hbase, hg, hr⟩
    · exact .inl h1
    · exact .inr ⟨g, cap, cur, hv, hbase, (hb.block g (blk_lt hg)).trans hg, hr⟩
  rcases h with h | h
  · exact .inl (go _ h)
  · exact .inr (go _ h)

set_option maxHeartbeats 400000 in
theorem string_nil (base b : Nat) (p : Value) (w : World) (hbk : w.heap[b]? = some (.cells #[p, .slice none 0 0] 47 (0, 0))) :
    Calls Tryd.prog 21 #[.pointer (some ⟨b, 0, none⟩)] w fun e w' => e = .returned (.string ⟨#[]⟩) ∧ Below base w w' := by
  have hUS := fun W q => Lib.run_unsafeString_none (P := Tryd.prog) W 62 3 9 q
  have c1 : w.cell? ⟨b, 1, none⟩ = some (.slice none 0 0) := by rw [Lib.cell_of_heap hbk]; rfl
  have hSD : ∀ W, (Builtin.unsafeSliceData_ #[45] 62 #[.slice none 0 0]).run Tryd.prog W = .ok (.pointer none) W := fun W => rfl
  have HBK := Lib.hid hbk
  clear hbk
  go_enter Tryd.func21, Tryd.ntmps21
  go_wp2
  go_region
  all_goals (go_wp2; go_ret; exact ⟨rfl, Below.drew (Below.refl base w)⟩)

set_option maxHeartbeats 400000 in
theorem string_some (base b : Nat) (l : List UInt8) (w : World) (h : Bld base b l w) (h0 : l ≠ []) :
    Calls Tryd.prog 21 #[.pointer (some ⟨b, 0, none⟩)] w fun e w' => e = .returned (.string (S l)) ∧ Below base w w' := by
  obtain ⟨p, hB, v, hbk, hown0, hne⟩ : ∃ p, BAt base b p (l.map B) w := by
    rcases h with h | h
    · exact ⟨_, h⟩
    · exact ⟨_, h⟩
  rw [List.length_map] at hown0
  have hl0 : l.length ≠ 0 := by simpa using h0
  obtain ⟨g, cap, cur, rfl, hbg, hg, hnc, hcm, hcs, htake⟩ : ∃ g cap cur, v = .slice (some ⟨g, 0, none⟩) l.length cap ∧ base ≤ g ∧ w.heap[g]? = some (.cells cur 5 (0, 0)) ∧ l.length ≤ cap ∧ cap ≤ maxLen ∧ cur.size = cap * 1 ∧ cur.toList.take (l.length * 1) = l.map B := by
    rcases hown0.2 with ⟨_, hz⟩ | ⟨g, cap, cur, hv, r⟩
    · exact absurd hz hl0
    · exact ⟨g, cap, cur, hv, r⟩
  have c1 : w.cell? ⟨b, 1, none⟩ = some (.slice (some ⟨g, 0, none⟩) l.length cap) := by rw [Lib.cell_of_heap hbk]; rfl
  have hSD : (Builtin.unsafeSliceData_ #[45] 62 #[.slice (some ⟨g, 0, none⟩) l.length cap]).run Tryd.prog w.drew = .ok (.pointer (some ⟨g, 0, none⟩)) w.drew :=
    Lib.run_unsafeSliceData_row _ _ _ _ _ _ (by omega)
  have hUS : (Builtin.unsafeString_ #[62, 3] 9 #[.pointer (some ⟨g, 0, none⟩), .int .i64 l.length]).run Tryd.prog w.drew = .ok (.string (S l)) (w.drew.freeze ⟨g, 0, none⟩ l.length) := by
    refine Lib.run_unsafeString_row w.drew 62 3 9 5 Tryd.underlying62 Tryd.cellsOfByte g cur.size (by have hg' : w.drew.heap[g]? = some (.cells cur 5 (0, 0)) := hg; simp [World.shape?, hg']) l h0 (by omega) (by unfold maxLen at hcm; omega) ?_
    intro j x hx
    have := hown0.cells (g := g) rfl j (B x) (by simp [hx])
    exact this
  clear htake hcs hcm hnc hown0 hne h
  have HBK := Lib.hid hbk
  have HG := Lib.hid hg
  clear hbk hg
  go_enter Tryd.func21, Tryd.ntmps21
  go_wp2
  go_region
  all_goals (go_wp2; go_ret; exact ⟨rfl, Lib.below_freeze (Below.drew (Below.refl base w)) (p := ⟨g, 0, none⟩) hbg _⟩)
end Go.Proofs.YtpleaopefngafaaDoor
