/- Bytes that are appended to a row of bytes of the call's own. No condition. -/
import Derived.Test.YtocfppopnoegmaaDoorCrLaid
import Derived.Maps.AppendAt
import Derived.Deep.AppendLies
import Derived.Deep.RegionHeld3
namespace Go.Proofs.YtocfppopnoegmaaDoor
set_option maxRecDepth 8000
open Go.RowKit

theorem Tryd.infoByte : (Tryd.prog.info? 5).map (fun i => (i.zero, i.size, i.bytes)) = some (some (.int .u8 0), 1, 1) := by kernel_rfl
theorem to_u8 (n : Nat) : IntKind.u8.wrap (n : Int) = ((UInt8.ofNat n).toNat : Int) := by
  rw [IntKind.wrap_u8', UInt8.toNat_ofNat']
  omega


/-- The slice value v owns the bytes l, in a row of block 'base' or later. -/
def Row (base : Nat) (w : World) (v : Value) (l : List UInt8) : Prop := w.ownsRow base 5 1 v l.length (l.map B)
theorem Row.form {base : Nat} {w : World} {v : Value} {l : List UInt8} (h : Row base w v l) : ∃ A cap, v = .slice A l.length cap ∧ BC w A l ∧ (∀ ad, A = some ad → base ≤ ad.block ∧ ad.block < w.heap.size ∧ v.ownBlock = some ad.block) := by
  rcases Nat.eq_zero_or_pos l.length with h0 | h0
  · rcases h.2 with ⟨rfl, _⟩ | ⟨g, cap, cur, rfl, hb, hg, _⟩
    · exact ⟨none, 0, by rw [h0], fun hn => absurd hn (by omega), fun _ h => by cases h⟩
    · refine ⟨_, cap, rfl, fun hn => absurd hn (by omega), fun ad he => ?_⟩
      cases he
      exact ⟨hb, (World.ownsRow.lt h g rfl).2, rfl⟩
  · obtain ⟨g, cap, rfl, hb, hlt⟩ := World.ownsRow.form h h0
    refine ⟨_, cap, rfl, fun _ => ⟨g, 0, rfl, fun k hk => ?_⟩, fun ad he => ?_⟩
    · have := h.cells (g := g) rfl k (B l[k]) (by simp [hk])
      rw [Addr.add_mid] at this
      exact this
    · cases he
      exact ⟨hb, hlt, rfl⟩
theorem row_none (w : World) (base : Nat) (hb : base ≤ w.heap.size) (n : Nat) (hn : n = w.heap.size) : Row base (w.alloc (.cells #[] 5)) (.slice (some ⟨n, 0, none⟩) 0 0) [] := by
  subst hn
  exact ⟨rfl, .inr ⟨w.heap.size, 0, #[], rfl, hb, heap_alloc_new w _, Nat.le_refl _, Nat.zero_le _, rfl, rfl⟩⟩

theorem run_append_bytes (w : World) (ty : TypeId) (base : Nat) (v : Value) (A : Option Addr) (c : Nat) (l m : List UInt8) (hrow : Row base w v l) (hr : BC w A m) (hl : l.length + m.length ≤ 16777216) (hbase : base ≤ w.heap.size) :
    ∃ v' w', (Builtin.append_ #[22, 22] ty #[v, .slice A m.length c]).run Tryd.prog w = .ok v' w' ∧ Row base w' v' (l ++ m) ∧ w.grownBy w' v.ownBlock := by
  obtain ⟨i0, hi0, hz0, hz1, hz2⟩ := info_parts Tryd.infoByte
  have hone : ∀ u ∈ m.map B, u.oneCell' = true := by
    intro u hu
    obtain ⟨c, _, rfl⟩ := List.mem_map.1 hu
    rfl
  have hgo : ∀ ad : Addr, A = some ad → (∀ j u, (m.map B)[j]? = some u → w.cell? (ad.add j) = some u) → ∃ v' w', (Builtin.append_ #[22, 22] ty #[v, .slice A m.length c]).run Tryd.prog w = .ok v' w' ∧ Row base w' v' (l ++ m) ∧ w.grownBy w' v.ownBlock := by
    rintro ad rfl hcells
    obtain ⟨v', w', hrun, h2, h3, _, _⟩ := run_append_own_at (P := Tryd.prog) w base 22 ty 5 i0 _ 1 1 Tryd.underlying22 hi0 hz0 hz1 hz2 rfl (by omega) v l.length (l.map B) hrow ad m.length c (m.map B) (by simp) hcells hone (by unfold maxLen; omega) (by omega) hbase
    refine ⟨v', w', hrun, ?_, h3⟩
    unfold Row
    rw [List.length_append, List.map_append]
    exact h2
  rcases Nat.eq_zero_or_pos m.length with h0 | h0
  · have hm : m = [] := List.length_eq_zero_iff.1 h0
    subst hm
    rcases A with _ | ad
    · refine ⟨v, w, ?_, by rw [List.append_nil]; exact hrow, World.grownBy.refl w _⟩
      rcases hrow.2 with ⟨rfl, hn⟩ | ⟨g, cap, cur, rfl, _, _, hnc, _⟩
      · simp [Builtin.append_, run_underlying Tryd.underlying22, sizeOf, typeInfo, hi0, Builtin.lenOf, Builtin.firstCells]
      · simp [Builtin.append_, run_underlying Tryd.underlying22, sizeOf, typeInfo, hi0, Builtin.lenOf, Builtin.firstCells, hnc, storeCells]
    · exact hgo ad rfl (fun j u hu => by simp at hu)
  · obtain ⟨b, off, rfl, hcell⟩ := hr h0
    refine hgo _ rfl (fun j u hu => ?_)
    rw [Addr.add_mid]
    have hj : j < m.length := by
      have := (List.getElem?_eq_some_iff.1 hu).1
      simpa using this
    rw [hcell j hj]
    simp [List.getElem?_map, List.getElem?_eq_getElem hj] at hu
    rw [hu]

theorem wpList_append_bytes {w : World} {ops : Array Oper} {rest : List Oper} {o : Oper} {a : Act} {Q : Exit → Act → World → Prop} (hw : Region.wanted o (yielded ops a.tmps) = true) (s x : Operand)
    (ho : o.op = .call { callee := .builtin .append, args := #[s, x], argTypes := #[22, 22] })
    (base : Nat) (v : Value) (A : Option Addr) (c n : Nat) (l m : List UInt8) (hs : a.eval s = v) (hn : m.length = n) (hx : a.eval x = .slice A n c) (hrow : Row base w v l) (hr : BC w A m) (hl : l.length + m.length ≤ 16777216) (hbase : base ≤ w.heap.size)
    (h : ∀ v' w', Row base w' v' (l ++ m) → w.grownBy w' v.ownBlock → wpList Tryd.prog ops Q rest (a.put o.dst v') w') : wpList Tryd.prog ops Q (o :: rest) a w :=
  BigFrame.wpList_want hw fun K hK => by
    subst hn
    obtain ⟨v', w', hrun, h2, h3⟩ := run_append_bytes w o.type base v A c l m hrow hr hl hbase
    unfold Oper.wp execOp
    simp only [ho, resolve, invoke, builtin, Sem.run_bind, Sem.run_pure, Result.andThen_ok, List.map_toArray, List.map_cons, List.map_nil, hs, hx, hrun]
    exact hK _ _ (h v' w' h2 h3)
theorem BC.below {w w' : World} {A : Option Addr} {l : List UInt8} {bd : Nat} (h : BC w A l) (hb : Below bd w w') (hlt : ∀ ad, A = some ad → 0 < l.length → ad.block < bd) : BC w' A l := fun hn => by
  obtain ⟨b, off, rfl, hc⟩ := h hn
  exact ⟨b, off, rfl, fun k hk => (hb.cell (p := ⟨b, off + k, none⟩) (hlt ⟨b, off, none⟩ rfl hn)).trans (hc k hk)⟩
end Go.Proofs.YtocfppopnoegmaaDoor
