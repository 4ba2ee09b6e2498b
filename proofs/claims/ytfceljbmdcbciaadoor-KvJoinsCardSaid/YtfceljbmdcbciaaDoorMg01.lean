/- From what the statements list of the table of sums to its cells, a world that meets it, and slices of bytes that came in; no condition. Bytes that are appended to a row of bytes of the call's own. No condition. -/
import Derived.Test.YtfceljbmdcbciaaDoorMg00
import Derived.ProofKit
import Derived.LaidMore
import Derived.OpenShut
import Derived.Stop.Joined
import Derived.Lib.LaidTab
import Derived.ChangeSlices
import Derived.Carry
import Derived.Maps.AppendAt
import Derived.Deep.AppendLies
import Derived.Deep.RegionHeld3
namespace Go.Proofs.YtfceljbmdcbciaaDoor
set_option maxRecDepth 8000
open Go.ChangeShapes Go.WideShapes Go.ChangeAt Go.WideMaps Go.WideElems Go.RowKit

theorem Tryd.own : ownKnob Tryd.prog.godebug = none := by kernel_rfl
theorem Tryd.laidOut : laidOutB Tryd.prog = true := by kernel_rfl
theorem Tryd.gHalves : Tryd.prog.globalNamed "matricula/crc.halves" = some 0 := by kernel_rfl
theorem Tryd.tHalves : (Tryd.prog.globals[0]?).map (·.type) = some 161 := by kernel_rfl
theorem Tryd.cellsU32 : Tryd.prog.cellsOf 137 = 1 := by kernel_rfl
theorem Tryd.cellsByte : Tryd.prog.cellsOf 5 = 1 := by kernel_rfl
theorem Tryd.cellsHalves : Tryd.prog.cellsOf 161 = 16 := by kernel_rfl

abbrev laidH : List (String × DataW Unit) := [("matricula/crc.halves", Rows.laid_matricula_crc_halves)]
def tabInts : List Int := Cr.H.map fun (n : Nat) => (n : Int)
theorem laid_tab : (Rows.laid_matricula_crc_halves : DataW Unit) = Lib.tabData .u32 tabInts := rfl

theorem hs_of_laid {W : World} (h : laidMetH Tryd.prog laidH W) : Hs W := by
  rw [MakeChecks.laidMetH_plain _ _ _ (by kernel_rfl)] at h
  have h2 : laidMet Tryd.prog [("matricula/crc.halves", Lib.tabData .u32 tabInts)] W := h
  have ht : Lib.TabIs Tryd.prog W "matricula/crc.halves" .u32 tabInts := Lib.tabIs_of_head Tryd.gHalves Tryd.tHalves Tryd.underlying161 Tryd.underlying137 Tryd.cellsU32 Tryd.cellsHalves h2
  intro j v hv
  have hl : Cr.H.length = 16 := rfl
  have hj : j < 16 := by
    have := (List.getElem?_eq_some_iff.1 hv).1
    simpa [tabCells, hl] using this
  have hc := ht.cell Tryd.gHalves j hj
  have hv' : tabCells[j]? = some (.int .u32 (Cr.hv j : Int)) := by
    simp [tabCells, Cr.hv, List.getD, List.getElem?_eq_getElem (show j < Cr.H.length by omega)]
  rw [hv'] at hv
  obtain rfl := Option.some.inj hv
  rw [Nat.zero_add, hc]
  have e : tabInts.getD j 0 = (Cr.hv j : Int) := by
    unfold tabInts Cr.hv
    have hl : j < Cr.H.length := hj
    simp [List.getD, List.getElem?_eq_getElem hl]
  rw [e]

theorem door_met (os : Os) (args : Array Value) : laidMetH Tryd.prog laidH ((World.doorLaid Tryd.prog 400 os).forCall (fun _ _ => 0) ⟨#[], args, []⟩).memory :=
  laidMetH_of_parts3 (fuel := 8) (laidMet_of_run' 8 (by kernel_rfl) (by kernel_rfl)) (by kernel_rfl) (by kernel_rfl)

/-- A slice of bytes that came in, below a bound. -/
def BCells (w : World) (bd : Nat) (A : Option Addr) (l : List UInt8) : Prop :=
  0 < l.length → ∃ b off, A = some ⟨b, off, none⟩ ∧ b < bd ∧ ∀ k (h : k < l.length), w.cell? ⟨b, off + k, none⟩ = some (B l[k])
theorem BCells.below {w w' : World} {A : Option Addr} {l : List UInt8} (h : BCells w w.heap.size A l) (hb : Below w.heap.size w w') : BCells w' w.heap.size A l := fun hn => by
  obtain ⟨b, off, h1, h2, h3⟩ := h hn
  exact ⟨b, off, h1, h2, fun k hk => (hb.cell (p := ⟨b, off + k, none⟩) h2).trans (h3 k hk)⟩
theorem BCells.bc {w : World} {bd : Nat} {A : Option Addr} {l : List UInt8} (h : BCells w bd A l) : BC w A l := fun hn => by
  obtain ⟨b, off, h1, _, h3⟩ := h hn
  exact ⟨b, off, h1, h3⟩

theorem open_bytes {H : Type} {enc : TypeId × Value → H} {W : World} {base0 : Nat} {sp : Nat → Bool} {held : Bool} {fuel : Nat} {a0 : Option Addr} {len cap : Nat} {x : DataW H × List MemPlace}
    (hf : DataW.trod enc Tryd.prog W base0 sp held fuel 36 [.slice a0 len cap] = some x) :
    ∃ l : List UInt8, l.length = len ∧ BCells W W.heap.size a0 l ∧ len ≤ cap ∧ cap ≤ 9223372036854775807 := by
  rcases open_ints Tryd.underlying36 Tryd.underlying5 Tryd.cellsByte hf with ⟨hcs, _⟩ | ⟨a, len', cap', zs, hcs, _, hlc, hcm, hzl, _, hx, hwf⟩
  · simp only [List.cons.injEq, Value.slice.injEq, and_true] at hcs
    obtain ⟨rfl, rfl, rfl⟩ := hcs
    exact ⟨[], rfl, fun h => absurd h (by simp), by omega, by omega⟩
  · simp only [List.cons.injEq, Value.slice.injEq, and_true] at hcs
    obtain ⟨rfl, rfl, rfl⟩ := hcs
    have hle : len ≤ zs.length := by rw [hzl]; split <;> omega
    refine ⟨(zs.take len).map fun z => UInt8.ofNat z.toNat, by simp; omega, fun hn => ?_, hlc, by unfold maxLen at hcm; omega⟩
    have hn' : 0 < len := by simp at hn; omega
    obtain ⟨b, off, spot⟩ := a
    have hspot : spot = none := by simpa [Addr.add] using World.cell?_spot (hx 0 (by omega))
    subst hspot
    have hadd : ∀ j, (⟨b, off, none⟩ : Addr).add j = ⟨b, off + j, none⟩ := fun j => Addr.add_mid b off j
    refine ⟨b, off, rfl, ?_, fun k hk => ?_⟩
    · have := World.block_lt_of_cell? W _ (hx 0 (by omega))
      rw [hadd] at this
      exact this
    · have hk' : k < len := by simp at hk; omega
      have hkz : k < zs.length := by omega
      have h2 := hx k hkz
      rw [hadd] at h2
      rw [h2]
      have hg : zs.getD k 0 = zs[k] := by simp [List.getD, hkz]
      have hw := hwf zs[k] (List.getElem_mem hkz)
      rw [hg]
      simp only [List.getElem_map, List.getElem_take]
      unfold B
      have hr : 0 ≤ zs[k] ∧ zs[k] < 256 := by
        have e1 : IntKind.u8.min = 0 := by decide
        have e2 : IntKind.u8.max = 255 := by decide
        simp [Lit.wf] at hw
        omega
      have : ((UInt8.ofNat zs[k].toNat).toNat : Int) = zs[k] := by
        rw [UInt8.toNat_ofNat']
        omega
      rw [this]

section
variable {H : Type} {enc : TypeId × Value → H} {P : Program} {w : World} {base : Nat} {spare : Nat → Bool} {held : Bool}
theorem trodAll_five {t0 t1 t2 t3 t4 : TypeId} {args : Array Value} {ds : List (DataW H)} {ps : List MemPlace} (h : DataW.TrodAll enc P w base spare held [t0, t1, t2, t3, t4] args.toList ds ps) :
    ∃ v0 v1 v2 v3 v4 d0 d1 d2 d3 d4 p0 p1 p2 p3 p4, args = #[v0, v1, v2, v3, v4] ∧ ds = [d0, d1, d2, d3, d4] ∧ ps = p0 ++ (p1 ++ (p2 ++ (p3 ++ p4))) ∧ DataW.Trod enc P w base spare held t0 v0 d0 p0 ∧ DataW.Trod enc P w base spare held t1 v1 d1 p1 ∧ DataW.Trod enc P w base spare held t2 v2 d2 p2 ∧ DataW.Trod enc P w base spare held t3 v3 d3 p3 ∧ DataW.Trod enc P w base spare held t4 v4 d4 p4 := by
  obtain ⟨v0, as0, d0, ds0, p0, q0, ha, rfl, rfl, h0, hrest⟩ := trodAll_cons h
  obtain ⟨v1, as1, d1, ds1, p1, q1, rfl, rfl, rfl, h1, hrest1⟩ := trodAll_cons hrest
  obtain ⟨v2, as2, d2, ds2, p2, q2, rfl, rfl, rfl, h2, hrest2⟩ := trodAll_cons hrest1
  obtain ⟨v3, as3, d3, ds3, p3, q3, rfl, rfl, rfl, h3, hrest3⟩ := trodAll_cons hrest2
  obtain ⟨v4, as4, d4, ds4, p4, q4, rfl, rfl, rfl, h4, hrest4⟩ := trodAll_cons hrest3
  obtain ⟨rfl, rfl, rfl⟩ := trodAll_nil hrest4
  exact ⟨v0, v1, v2, v3, v4, d0, d1, d2, d3, d4, p0, p1, p2, p3, p4, by cases args; simp_all, rfl, by simp, h0, h1, h2, h3, h4⟩
theorem trodAll_mk5 {t0 t1 t2 t3 t4 : TypeId} {v0 v1 v2 v3 v4 : Value} {d0 d1 d2 d3 d4 : DataW H} {p0 p1 p2 p3 p4 : List MemPlace} (h0 : DataW.Trod enc P w base spare held t0 v0 d0 p0) (h1 : DataW.Trod enc P w base spare held t1 v1 d1 p1)
    (h2 : DataW.Trod enc P w base spare held t2 v2 d2 p2) (h3 : DataW.Trod enc P w base spare held t3 v3 d3 p3) (h4 : DataW.Trod enc P w base spare held t4 v4 d4 p4) :
    DataW.TrodAll enc P w base spare held [t0, t1, t2, t3, t4] [v0, v1, v2, v3, v4] [d0, d1, d2, d3, d4] (p0 ++ (p1 ++ (p2 ++ (p3 ++ p4)))) := ⟨p0, p1 ++ (p2 ++ (p3 ++ p4)), h0, trodAll_mk4 h1 h2 h3 h4, rfl⟩
end
end Go.Proofs.YtfceljbmdcbciaaDoor
namespace Go.Proofs.YtfceljbmdcbciaaDoor
set_option maxRecDepth 8000
open Go.RowKit

theorem Tryd.infoByte : (Tryd.prog.info? 5).map (fun i => (i.zero, i.size, i.bytes)) = some (some (.int .u8 0), 1, 1) := by kernel_rfl
theorem to_u8 (n : Nat) : IntKind.u8.wrap (n : Int) = ((UInt8.ofNat n).toNat : Int) := by
  rw [IntKind.wrap_u8', UInt8.toNat_ofNat']
  omega


/-- The slice value v owns the bytes l, in a row of block 'base' or later. -/
def Row (base : Nat) (w : World) (v : Value) (l : List UInt8) : Prop := w.ownsRow base 5 1 v l.length (l.map B)
theorem Row.form {base : Nat} {w : World} {v : Value} {l : List UInt8} (h : Row base w v l) : ∃ A cap, v = .slice A l.length cap ∧ BC w A l ∧ (∀ ad, A = some ad → base ≤ ad.block ∧ ad.block < w.heap.size ∧ v.ownBlock = some ad.block) := by
  rcases Nat.eq_zero_or_pos l.length with h0 | h0
  · rcases h.2 with ⟨rfl, _⟩ | ⟨g, cap, cur, rfl, hb, hg, _⟩
    · exact ⟨none, 0, by rw [h0], fun hn => absurd hn (by omega), fun _ h => by cases h⟩
    · refine ⟨_, cap, rfl, fun hn => absurd hn (by omega), fun ad he => ?_⟩
      cases he
      exact ⟨hb, (World.ownsRow.lt h g rfl).2, rfl⟩
  · obtain ⟨g, cap, rfl, hb, hlt⟩ := World.ownsRow.form h h0
    refine ⟨_, cap, rfl, fun _ => ⟨g, 0, rfl, fun k hk => ?_⟩, fun ad he => ?_⟩
    · have := h.cells (g := g) rfl k (B l[k]) (by simp [hk])
      rw [Addr.add_mid] at this
      exact this
    · cases he
      exact ⟨hb, hlt, rfl⟩
theorem row_none (w : World) (base : Nat) (hb : base ≤ w.heap.size) (n : Nat) (hn : n = w.heap.size) : Row base (w.alloc (.cells #[] 5)) (.slice (some ⟨n, 0, none⟩) 0 0) [] := by
  subst hn
  exact ⟨rfl, .inr ⟨w.heap.size, 0, #[], rfl, hb, heap_alloc_new w _, Nat.le_refl _, Nat.zero_le _, rfl, rfl⟩⟩

theorem run_append_bytes (w : World) (ty : TypeId) (base : Nat) (v : Value) (A : Option Addr) (c : Nat) (l m : List UInt8) (hrow : Row base w v l) (hr : BC w A m) (hl : l.length + m.length ≤ 16777216) (hbase : base ≤ w.heap.size) :
    ∃ v' w', (Builtin.append_ #[36, 36] ty #[v, .slice A m.length c]).run Tryd.prog w = .ok v' w' ∧ Row base w' v' (l ++ m) ∧ w.grownBy w' v.ownBlock := by
  obtain ⟨i0, hi0, hz0, hz1, hz2⟩ := info_parts Tryd.infoByte
  have hone : ∀ u ∈ m.map B, u.oneCell' = true := by
    intro u hu
    obtain ⟨c, _, rfl⟩ := List.mem_map.1 hu
    rfl
  have hgo : ∀ ad : Addr, A = some ad → (∀ j u, (m.map B)[j]? = some u → w.cell? (ad.add j) = some u) → ∃ v' w', (Builtin.append_ #[36, 36] ty #[v, .slice A m.length c]).run Tryd.prog w = .ok v' w' ∧ Row base w' v' (l ++ m) ∧ w.grownBy w' v.ownBlock := by
    rintro ad rfl hcells
    obtain ⟨v', w', hrun, h2, h3, _, _⟩ := run_append_own_at (P := Tryd.prog) w base 36 ty 5 i0 _ 1 1 Tryd.underlying36 hi0 hz0 hz1 hz2 rfl (by omega) v l.length (l.map B) hrow ad m.length c (m.map B) (by simp) hcells hone (by unfold maxLen; omega) (by omega) hbase
    refine ⟨v', w', hrun, ?_, h3⟩
    unfold Row
    rw [List.length_append, List.map_append]
    exact h2
  rcases Nat.eq_zero_or_pos m.length with h0 | h0
  · have hm : m = [] := List.length_eq_zero_iff.1 h0
    subst hm
    rcases A with _ | ad
    · refine ⟨v, w, ?_, by rw [List.append_nil]; exact hrow, World.grownBy.refl w _⟩
      rcases hrow.2 with ⟨rfl, hn⟩ | ⟨g, cap, cur, rfl, _, _, hnc, _⟩
      · simp [Builtin.append_, run_underlying Tryd.underlying36, sizeOf, typeInfo, hi0, Builtin.lenOf, Builtin.firstCells]
      · simp [Builtin.append_, run_underlying Tryd.underlying36, sizeOf, typeInfo, hi0, Builtin.lenOf, Builtin.firstCells, hnc, storeCells]
    · exact hgo ad rfl (fun j u hu => by simp at hu)
  · obtain ⟨b, off, rfl, hcell⟩ := hr h0
    refine hgo _ rfl (fun j u hu => ?_)
    rw [Addr.add_mid]
    have hj : j < m.length := by
      have := (List.getElem?_eq_some_iff.1 hu).1
      simpa using this
    rw [hcell j hj]
    simp [List.getElem?_map, List.getElem?_eq_getElem hj] at hu
    rw [hu]

theorem wpList_append_bytes {w : World} {ops : Array Oper} {rest : List Oper} {o : Oper} {a : Act} {Q : Exit → Act → World → Prop} (hw : Region.wanted o (yielded ops a.tmps) = true) (s x : Operand)
    (ho : o.op = .call { callee := .builtin .append, args := #[s, x], argTypes := #[36, 36] })
    (base : Nat) (v : Value) (A : Option Addr) (c n : Nat) (l m : List UInt8) (hs : a.eval s = v) (hn : m.length = n) (hx : a.eval x = .slice A n c) (hrow : Row base w v l) (hr : BC w A m) (hl : l.length + m.length ≤ 16777216) (hbase : base ≤ w.heap.size)
    (h : ∀ v' w', Row base w' v' (l ++ m) → w.grownBy w' v.ownBlock → wpList Tryd.prog ops Q rest (a.put o.dst v') w') : wpList Tryd.prog ops Q (o :: rest) a w :=
  BigFrame.wpList_want hw fun K hK => by
    subst hn
    obtain ⟨v', w', hrun, h2, h3⟩ := run_append_bytes w o.type base v A c l m hrow hr hl hbase
    unfold Oper.wp execOp
    simp only [ho, resolve, invoke, builtin, Sem.run_bind, Sem.run_pure, Result.andThen_ok, List.map_toArray, List.map_cons, List.map_nil, hs, hx, hrun]
    exact hK _ _ (h v' w' h2 h3)
theorem BC.below {w w' : World} {A : Option Addr} {l : List UInt8} {bd : Nat} (h : BC w A l) (hb : Below bd w w') (hlt : ∀ ad, A = some ad → 0 < l.length → ad.block < bd) : BC w' A l := fun hn => by
  obtain ⟨b, off, rfl, hc⟩ := h hn
  exact ⟨b, off, rfl, fun k hk => (hb.cell (p := ⟨b, off + k, none⟩) (hlt ⟨b, off, none⟩ rfl hn)).trans (hc k hk)⟩
end Go.Proofs.YtfceljbmdcbciaaDoor
