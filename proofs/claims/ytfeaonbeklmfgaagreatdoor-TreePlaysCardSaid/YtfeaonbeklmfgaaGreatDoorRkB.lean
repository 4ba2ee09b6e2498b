/- Bytes appended to a row of the call's own, texts as bytes, and what package record's putTime lays. No condition but that rows are not too long. -/
import Derived.Test.YtfeaonbeklmfgaaGreatDoorRkA
import Derived.Maps.AppendAt
import Derived.Deep.AppendLies
import Derived.Deep.RegionHeld3
import Derived.Lib.AppendStr
import Derived.Lib.ConvBytes
namespace Go.Proofs.YtfeaonbeklmfgaaGreatDoor
set_option maxRecDepth 8000
open Go.RowKit

/-- The slice at A holds the bytes l. -/
def BC (w : World) (A : Option Addr) (l : List UInt8) : Prop :=
  0 < l.length → ∃ b off, A = some ⟨b, off, none⟩ ∧ ∀ k (h : k < l.length), w.cell? ⟨b, off + k, none⟩ = some (B l[k])

theorem S_size (l : List UInt8) : (S l).size = l.length := rfl
theorem to_u8 (n : Nat) : IntKind.u8.wrap (n : Int) = ((UInt8.ofNat n).toNat : Int) := by
  rw [IntKind.wrap_u8', UInt8.toNat_ofNat']
  omega
theorem Row.form {base : Nat} {w : World} {v : Value} {l : List UInt8} (h : Row base w v l) : ∃ A cap, v = .slice A l.length cap ∧ BC w A l ∧ (∀ ad, A = some ad → base ≤ ad.block ∧ ad.block < w.heap.size ∧ v.ownBlock = some ad.block) := by
  rcases Nat.eq_zero_or_pos l.length with h0 | h0
  · rcases h.2 with ⟨rfl, _⟩ | ⟨g, cap, cur, rfl, hb, hg, _⟩
    · exact ⟨none, 0, by rw [h0], fun hn => absurd hn (by omega), fun _ h => by cases h⟩
    · refine ⟨_, cap, rfl, fun hn => absurd hn (by omega), fun ad he => ?_⟩
      cases he
      exact ⟨hb, (World.ownsRow.lt h g rfl).2, rfl⟩
  · obtain ⟨g, cap, rfl, hb, hlt⟩ := World.ownsRow.form h h0
    refine ⟨_, cap, rfl, fun _ => ⟨g, 0, rfl, fun k hk => ?_⟩, fun ad he => ?_⟩
    · have := h.cells (g := g) rfl k (B l[k]) (by simp [hk])
      rw [Addr.add_mid] at this
      exact this
    · cases he
      exact ⟨hb, hlt, rfl⟩
theorem run_append_bytes (w : World) (ty : TypeId) (base : Nat) (v : Value) (A : Option Addr) (c : Nat) (l m : List UInt8) (hrow : Row base w v l) (hr : BC w A m) (hl : l.length + m.length ≤ 16777216) (hbase : base ≤ w.heap.size) :
    ∃ v' w', (Builtin.append_ #[94, 94] ty #[v, .slice A m.length c]).run Tryz.prog w = .ok v' w' ∧ Row base w' v' (l ++ m) ∧ w.grownBy w' v.ownBlock := by
  obtain ⟨i0, hi0, hz0, hz1, hz2⟩ := info_parts Tryz.infoByte
  have hone : ∀ u ∈ m.map B, u.oneCell' = true := by
    intro u hu
    obtain ⟨c, _, rfl⟩ := List.mem_map.1 hu
    rfl
  have hgo : ∀ ad : Addr, A = some ad → (∀ j u, (m.map B)[j]? = some u → w.cell? (ad.add j) = some u) → ∃ v' w', (Builtin.append_ #[94, 94] ty #[v, .slice A m.length c]).run Tryz.prog w = .ok v' w' ∧ Row base w' v' (l ++ m) ∧ w.grownBy w' v.ownBlock := by
    rintro ad rfl hcells
    obtain ⟨v', w', hrun, h2, h3, _, _⟩ := run_append_own_at (P := Tryz.prog) w base 94 ty 5 i0 _ 1 1 Tryz.underlying94 hi0 hz0 hz1 hz2 rfl (by omega) v l.length (l.map B) hrow ad m.length c (m.map B) (by simp) hcells hone (by unfold maxLen; omega) (by omega) hbase
    refine ⟨v', w', hrun, ?_, h3⟩
    unfold Row
    rw [List.length_append, List.map_append]
    exact h2
  rcases Nat.eq_zero_or_pos m.length with h0 | h0
  · have hm : m = [] := List.length_eq_zero_iff.1 h0
    subst hm
    rcases A with _ | ad
    · refine ⟨v, w, ?_, by rw [List.append_nil]; exact hrow, World.grownBy.refl w _⟩
      rcases hrow.2 with ⟨rfl, hn⟩ | ⟨g, cap, cur, rfl, _, _, hnc, _⟩
      · simp [Builtin.append_, run_underlying Tryz.underlying94, sizeOf, typeInfo, hi0, Builtin.lenOf, Builtin.firstCells]
      · simp [Builtin.append_, run_underlying Tryz.underlying94, sizeOf, typeInfo, hi0, Builtin.lenOf, Builtin.firstCells, hnc, storeCells]
    · exact hgo ad rfl (fun j u hu => by simp at hu)
  · obtain ⟨b, off, rfl, hcell⟩ := hr h0
    refine hgo _ rfl (fun j u hu => ?_)
    rw [Addr.add_mid]
    have hj : j < m.length := by
      have := (List.getElem?_eq_some_iff.1 hu).1
      simpa using this
    rw [hcell j hj]
    simp [List.getElem?_map, List.getElem?_eq_getElem hj] at hu
    rw [hu]
theorem wpList_append_bytes {w : World} {ops : Array Oper} {rest : List Oper} {o : Oper} {a : Act} {Q : Exit → Act → World → Prop} (hw : Region.wanted o (yielded ops a.tmps) = true) (s x : Operand)
    (ho : o.op = .call { callee := .builtin .append, args := #[s, x], argTypes := #[94, 94] })
    (base : Nat) (v : Value) (A : Option Addr) (c n : Nat) (l m : List UInt8) (hs : a.eval s = v) (hn : m.length = n) (hx : a.eval x = .slice A n c) (hrow : Row base w v l) (hr : BC w A m) (hl : l.length + m.length ≤ 16777216) (hbase : base ≤ w.heap.size)
    (h : ∀ v' w', Row base w' v' (l ++ m) → w.grownBy w' v.ownBlock → wpList Tryz.prog ops Q rest (a.put o.dst v') w') : wpList Tryz.prog ops Q (o :: rest) a w :=
  BigFrame.wpList_want hw fun K hK => by
    subst hn
    obtain ⟨v', w', hrun, h2, h3⟩ := run_append_bytes w o.type base v A c l m hrow hr hl hbase
    unfold Oper.wp execOp
    simp only [ho, resolve, invoke, builtin, Sem.run_bind, Sem.run_pure, Result.andThen_ok, List.map_toArray, List.map_cons, List.map_nil, hs, hx, hrun]
    exact hK _ _ (h v' w' h2 h3)
theorem BC.below {w w' : World} {A : Option Addr} {l : List UInt8} {bd : Nat} (h : BC w A l) (hb : Below bd w w') (hlt : ∀ ad, A = some ad → 0 < l.length → ad.block < bd) : BC w' A l := fun hn => by
  obtain ⟨b, off, rfl, hc⟩ := h hn
  exact ⟨b, off, rfl, fun k hk => (hb.cell (p := ⟨b, off + k, none⟩) (hlt ⟨b, off, none⟩ rfl hn)).trans (hc k hk)⟩

theorem conv_bytes (w : World) (l : List UInt8) : ∃ cap w', (convert 9 94 (.string (S l))).run Tryz.prog w = .ok (.slice (some ⟨w.heap.size, 0, none⟩) (S l).size cap) w' ∧ Below w.heap.size w w' ∧ BC w' (some ⟨w.heap.size, 0, none⟩) l := by
  refine ⟨_, _, Lib.run_convert_string_bytes (P := Tryz.prog) w 9 94 5 (S l) Tryz.underlying9 Tryz.underlying94 Tryz.underlying5, ⟨rfl, rfl, rfl, by rw [Lib.bytesWorld_size]; omega, fun k hk => Lib.bytesWorld_at_old _ _ _ _ hk⟩, fun hn => ⟨w.heap.size, 0, rfl, fun j hj => ?_⟩⟩
  rw [Nat.zero_add, Lib.bytesWorld_cell w _ _ j (by rw [S_size]; exact hj)]
  unfold B
  congr 2
  show ((((S l).data.toList.getD j 0).toNat : Nat) : Int) = _
  have e : (S l).data.toList = l := by unfold S; simp
  rw [e]
  simp [List.getD, hj]

/-- Bytes of the call's own. -/
def OwnB (w : World) (l : List UInt8) (e : Ending) (w' : World) : Prop := ∃ A c, e = .returned (.slice A l.length c) ∧ Row w.heap.size w' (.slice A l.length c) l ∧ Below w.heap.size w w'
theorem own_base5 {b b' : Nat} {w : World} {v : Value} {l : List UInt8} (h : Row b w v l) (hb : b' ≤ b) : Row b' w v l := by
  refine ⟨h.1, ?_⟩
  rcases h.2 with h1 | ⟨g, cap, cur, e, h2, h3⟩
  · exact .inl h1
  · exact .inr ⟨g, cap, cur, e, Nat.le_trans hb h2, h3⟩

/-- One byte of a block of its own. -/
theorem bc_one (w : World) (x : Int) (c : UInt8) (h : x = (c.toNat : Int)) : BC (w.alloc (.cells #[.int .u8 x] 5)) (some ⟨w.heap.size, 0, none⟩) [c] := fun _ => ⟨w.heap.size, 0, rfl, fun j hj => by
  have hj2 : j = 0 := by simpa using hj
  subst hj2
  rw [Nat.zero_add, cell_of_row _ _ 0 _ _ _ (heap_alloc_new w _), h]
  rfl⟩
/-- A block of texts is no row of bytes: so it stays where that row grows. -/
theorem row_ne_text {base G : Nat} {w : World} {v : Value} {l : List UInt8} {cs : Array Value} (h : Row base w v l) (hG : w.heap[G]? = some (.cells cs 9 (0, 0))) : some G ≠ v.ownBlock := by
  intro e
  rcases h.2 with ⟨rfl, _⟩ | ⟨g, cap, cur, rfl, _, hg, _⟩
  · cases e
  · have e' : G = g := Option.some.inj e
    subst e'
    rw [hG] at hg
    simp at hg
theorem text_kept {base G : Nat} {w w' : World} {v : Value} {l : List UInt8} {cs : Array Value} (h : Row base w v l) (hG : w.heap[G]? = some (.cells cs 9 (0, 0))) (hg : w.grownBy w' v.ownBlock) : w'.heap[G]? = some (.cells cs 9 (0, 0)) :=
  (hg.block G (lt_of_blk hG) (row_ne_text h hG)).trans hG
set_option maxHeartbeats 1600000 in
theorem putTime_any (w : World) (base : Nat) (v : Value) (l : List UInt8) (n : Nat) (_hn : n < 9223372036854775808) (hrow : Row base w v l) (hl : l.length ≤ 1000) (hbase : base ≤ w.heap.size) :
    Calls Tryz.prog 64 #[v, .int .i64 (n : Int)] w fun e w' => ∃ v', e = .returned v' ∧ Row base w' v' (l ++ Rk.be 8 n) ∧ Below base w w' := by
  have HROW := Lib.hid hrow
  clear hrow
  go_enter Tryz.func64, Tryz.ntmps64
  go_wp2_with fail
  go_loopw [0, 6] (fun bv iv wr => ∃ (k : Nat) (b : Value), k ≤ 8 ∧ iv = .int .i64 (k : Int) ∧ bv = b ∧ Row base wr b (l ++ (Rk.be 8 n).take k) ∧ Below base w wr) (fun _ iv _ => 8 - (intOf iv).toNat)
  case atStart => exact ⟨0, _, Nat.zero_le _, rfl, rfl, by rw [List.take_zero, List.append_nil]; exact HROW.out, Below.refl _ _⟩
  case round =>
    obtain ⟨k, bv, hk, rfl, hbv, hrow, hb⟩ := hrel
    replace hbv := hbv.symm
    subst hbv
    by_cases hlt : k < 8
    · have hkI : (k : Int) < 8 := by omega
      have hx : ((n : Int) / 2 ^ (8 * (7 - k)) % 256) = ((UInt8.ofNat (n / 256 ^ (7 - k))).toNat : Int) := by
        rw [UInt8.toNat_ofNat', show (256 : Nat) ^ (7 - k) = 2 ^ (8 * (7 - k)) by rw [Nat.pow_mul]]
        simp
      have HBC := Lib.hid (bc_one wr _ _ hx)
      have hba : Below wr.heap.size wr (wr.alloc (.cells #[.int .u8 ((n : Int) / 2 ^ (8 * (7 - k)) % 256)] 5)) := (Below.refl _ _).alloc (Nat.le_refl _) _
      have HRA := Lib.hid (own_below hrow hba : Row base (wr.alloc (.cells #[.int .u8 ((n : Int) / 2 ^ (8 * (7 - k)) % 256)] 5)) bv (l ++ (Rk.be 8 n).take k))
      have HBA := Lib.hid (hb.trans (hba.mono (Nat.le_trans hbase hb.size)))
      have HT := Lib.hid (Rk.be_take n k hlt)
      have HL : Hid ((l ++ (Rk.be 8 n).take k).length + 1 ≤ 16777216) := Lib.hid (by rw [List.length_append, List.length_take]; omega)
      clear hrow hb hba hx
      go_wp2_with (at_builtin; refine wpList_append_bytes ?hw (.tmp 9) (.tmp 16) rfl base bv (some ⟨wr.heap.size, 0, none⟩) 1 1 (l ++ (Rk.be 8 n).take k) [UInt8.ofNat (n / 256 ^ (7 - k))] rfl rfl rfl HRA.out HBC.out HL.out (Nat.le_trans hbase HBA.out.size) ?_; rotate_right; intro v4 w4 hown4 hgrow4)
      rw [List.append_assoc, ← HT.out] at hown4
      have hb4 : Below base w w4 := HBA.out.grown hgrow4 (Nat.le_trans hbase HBA.out.size) (fun q hq => (World.ownsRow.lt HRA.out q hq).1)
      go_roundw
      case rel => exact ⟨k + 1, _, by omega, by go_num, rfl, hown4, hb4⟩
      case measure => simp [intOf]; omega
    · have hkI : ¬ (k : Int) < 8 := by omega
      have hk8 : k = 8 := by omega
      subst hk8
      rw [List.take_of_length_le (by rw [Rk.be_len]; exact Nat.le_refl _)] at hrow
      go_wp2_with fail
      go_ret
      exact ⟨_, rfl, hrow, hb⟩
end Go.Proofs.YtfeaonbeklmfgaaGreatDoor
