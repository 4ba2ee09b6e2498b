/- Slices of records: their cells, rows of the call's own, slices.Clone of them. No condition but their number. -/
import Derived.Test.YtfeaonbeklmfgaaGreatDoorTrP
import Derived.Test.YtfeaonbeklmfgaaGreatDoorRkG
import Derived.Lib.SliceRun
import Derived.Maps.AppendAt
namespace Go.Proofs.YtfeaonbeklmfgaaGreatDoor
set_option maxRecDepth 8000
open Go.RowKit

theorem Tryz.infoRec : (Tryz.prog.info? 30).map (fun i => (i.zero, i.size, i.bytes)) = some (some (.agg #[.int .i64 0, .string ⟨#[]⟩, .string ⟨#[]⟩, .string ⟨#[]⟩, .string ⟨#[]⟩, .string ⟨#[]⟩, .int .i64 0, .int .i64 0, .int .i64 0, .bool false]), 10, 120) := by kernel_rfl
def cellsR (r : Rk.R) : List Value := [.int .i64 r.kind, .string (S r.name), .string (S r.parent), .string (S r.user), .string (S r.service), .string (S r.url), .int .i64 r.made, .int .i64 r.used, .int .i64 r.uses, .bool r.fresh]
def cells10 (l : List Rk.R) : List Value := l.flatMap cellsR
theorem cells10_cons (c : Rk.R) (l : List Rk.R) : cells10 (c :: l) = cellsR c ++ cells10 l := rfl
theorem cells10_len (l : List Rk.R) : (cells10 l).length = l.length * 10 := by
  induction l with
  | nil => rfl
  | cons c r ih => rw [cells10_cons, List.length_append, ih, List.length_cons]; show 10 + _ = _; omega
theorem cells10_append (a b : List Rk.R) : cells10 (a ++ b) = cells10 a ++ cells10 b := by simp [cells10]
theorem cellsR_one (c : Rk.R) : ∀ u ∈ cellsR c, u.oneCell' = true := by
  intro u h
  simp [cellsR] at h
  rcases h with rfl | rfl | rfl | rfl | rfl | rfl | rfl | rfl | rfl | rfl <;> rfl
theorem cells10_one (l : List Rk.R) : ∀ u ∈ cells10 l, u.oneCell' = true := by
  intro u hu
  unfold cells10 at hu
  rw [List.mem_flatMap] at hu
  obtain ⟨c, _, h⟩ := hu
  exact cellsR_one c u h
theorem cells10_at : ∀ (l : List Rk.R) (k : Nat) (hk : k < l.length) (i : Nat), i < 10 → (cells10 l)[k * 10 + i]? = (cellsR l[k])[i]?
  | [], k, hk, _, _ => absurd hk (by simp)
  | c :: r, 0, _, i, hi => by
    rw [cells10_cons, Nat.zero_mul, Nat.zero_add, List.getElem?_append_left (by exact hi)]
    rfl
  | c :: r, k + 1, hk, i, hi => by
    have ih := cells10_at r k (by simpa using hk) i hi
    rw [cells10_cons, show (k + 1) * 10 + i = 10 + (k * 10 + i) by omega, List.getElem?_append_right (by show 10 ≤ _; omega)]
    show (cells10 r)[10 + (k * 10 + i) - 10]? = _
    rw [Nat.add_sub_cancel_left, ih]
    rfl

/-- The cells of one record, from 'off' on. -/
structure At10 (w : World) (b off : Nat) (r : Rk.R) : Prop where
  c0 : w.cell? ⟨b, off, none⟩ = some (.int .i64 r.kind)
  c1 : w.cell? ⟨b, off + 1, none⟩ = some (.string (S r.name))
  c2 : w.cell? ⟨b, off + 2, none⟩ = some (.string (S r.parent))
  c3 : w.cell? ⟨b, off + 3, none⟩ = some (.string (S r.user))
  c4 : w.cell? ⟨b, off + 4, none⟩ = some (.string (S r.service))
  c5 : w.cell? ⟨b, off + 5, none⟩ = some (.string (S r.url))
  c6 : w.cell? ⟨b, off + 6, none⟩ = some (.int .i64 r.made)
  c7 : w.cell? ⟨b, off + 7, none⟩ = some (.int .i64 r.used)
  c8 : w.cell? ⟨b, off + 8, none⟩ = some (.int .i64 r.uses)
  c9 : w.cell? ⟨b, off + 9, none⟩ = some (.bool r.fresh)
theorem At10.of {w : World} {b off : Nat} {r : Rk.R} (h : ∀ i u, (cellsR r)[i]? = some u → w.cell? ⟨b, off + i, none⟩ = some u) : At10 w b off r := ⟨h 0 _ rfl, h 1 _ rfl, h 2 _ rfl, h 3 _ rfl, h 4 _ rfl, h 5 _ rfl, h 6 _ rfl, h 7 _ rfl, h 8 _ rfl, h 9 _ rfl⟩
theorem At10.keep {w w' : World} {B b off : Nat} {r : Rk.R} (h : At10 w b off r) (hb : Below B w w') (hlt : b < B) : At10 w' b off r :=
  ⟨(hb.cell (p := ⟨b, off, none⟩) hlt).trans h.c0, (hb.cell (p := ⟨b, off + 1, none⟩) hlt).trans h.c1, (hb.cell (p := ⟨b, off + 2, none⟩) hlt).trans h.c2, (hb.cell (p := ⟨b, off + 3, none⟩) hlt).trans h.c3, (hb.cell (p := ⟨b, off + 4, none⟩) hlt).trans h.c4, (hb.cell (p := ⟨b, off + 5, none⟩) hlt).trans h.c5, (hb.cell (p := ⟨b, off + 6, none⟩) hlt).trans h.c6, (hb.cell (p := ⟨b, off + 7, none⟩) hlt).trans h.c7, (hb.cell (p := ⟨b, off + 8, none⟩) hlt).trans h.c8, (hb.cell (p := ⟨b, off + 9, none⟩) hlt).trans h.c9⟩
theorem At10.new (w : World) (r : Rk.R) : At10 (w.alloc (.cells (recCs r) 30)) w.heap.size 0 r :=
  have e := heap_alloc_new w (.cells (recCs r) 30)
  ⟨cell_of_row _ _ 0 _ _ _ e, cell_of_row _ _ 1 _ _ _ e, cell_of_row _ _ 2 _ _ _ e, cell_of_row _ _ 3 _ _ _ e, cell_of_row _ _ 4 _ _ _ e, cell_of_row _ _ 5 _ _ _ e, cell_of_row _ _ 6 _ _ _ e, cell_of_row _ _ 7 _ _ _ e, cell_of_row _ _ 8 _ _ _ e, cell_of_row _ _ 9 _ _ _ e⟩
/-- The address A holds the records l, in a block below B. -/
def RCells (w : World) (B : Nat) (A : Option Addr) (l : List Rk.R) : Prop :=
  0 < l.length → ∃ b off, A = some ⟨b, off, none⟩ ∧ b < B ∧ ∀ j u, (cells10 l)[j]? = some u → w.cell? ⟨b, off + j, none⟩ = some u
theorem RCells.at10 {w : World} {B : Nat} {A : Option Addr} {l : List Rk.R} (h : RCells w B A l) (k : Nat) (hk : k < l.length) : ∃ b off, A = some ⟨b, off, none⟩ ∧ b < B ∧ At10 w b (off + k * 10) l[k] := by
  obtain ⟨b, off, hA, hb, hc⟩ := h (by omega)
  refine ⟨b, off, hA, hb, .of fun i u hu => ?_⟩
  have hi : i < 10 := (List.getElem?_eq_some_iff.1 hu).1
  have := hc (k * 10 + i) u (by rw [cells10_at l k hk i hi]; exact hu)
  rwa [← Nat.add_assoc] at this
theorem RCells.keep {w w' : World} {B : Nat} {A : Option Addr} {l : List Rk.R} (h : RCells w B A l) (hb : Below B w w') : RCells w' B A l := fun hn => by
  obtain ⟨b, off, rfl, hlt, hc⟩ := h hn
  exact ⟨b, off, rfl, hlt, fun j u hu => (hb.cell (p := ⟨b, off + j, none⟩) hlt).trans (hc j u hu)⟩
theorem RCells.more {w : World} {B B' : Nat} {A : Option Addr} {l : List Rk.R} (h : RCells w B A l) (hB : B ≤ B') : RCells w B' A l := fun hn => by
  obtain ⟨b, off, e, hlt, hc⟩ := h hn
  exact ⟨b, off, e, Nat.lt_of_lt_of_le hlt hB, hc⟩
theorem RCells.next {w w' : World} {A : Option Addr} {l : List Rk.R} (h : RCells w w.heap.size A l) (hb : Below w.heap.size w w') : RCells w' w'.heap.size A l := (h.keep hb).more hb.size
/-- The slice value v owns the records l. -/
def RRow (base : Nat) (w : World) (v : Value) (l : List Rk.R) : Prop := w.ownsRow base 30 10 v l.length (cells10 l)
theorem RRow.form {base : Nat} {w : World} {v : Value} {l : List Rk.R} (h : RRow base w v l) : ∃ A cap, v = .slice A l.length cap ∧ RCells w w.heap.size A l := by
  rcases h.2 with ⟨rfl, hn⟩ | ⟨g, cap, cur, rfl, hbase, hg, hr⟩
  · exact ⟨none, 0, by rw [hn], fun h0 => absurd h0 (by omega)⟩
  · refine ⟨_, cap, rfl, fun _ => ⟨g, 0, rfl, (Array.getElem?_eq_some_iff.1 hg).1, fun j u hu => ?_⟩⟩
    have := World.ownsRow.cells h (g := g) rfl j u hu
    rw [Addr.add_mid] at this
    exact this
set_option maxHeartbeats 800000 in
/-- slices.Clone of records. -/
theorem cloneR_any (A : Option Addr) (cap : Nat) (l : List Rk.R) (w : World) (hc : RCells w w.heap.size A l) (hl : l.length ≤ 1048576) :
    Calls Tryz.prog 43 #[.slice A l.length cap] w fun e w' => ∃ v', e = .returned v' ∧ RRow w.heap.size w' v' l ∧ Below w.heap.size w w' := by
  obtain ⟨i0, hi0, hz0, hz1, hz2⟩ := info_parts Tryz.infoRec
  have q22 : ∀ (w : World) (a : Option Addr) (n c n' c' : Nat), (binOp .eql 43 (.slice a n c) (.slice none n' c')).run Tryz.prog w = .ok (.bool a.isNone) w := fun w a n c n' c' => Lib.run_eql_slice_nil w _ _ a n c n' c' Tryz.underlying43
  rcases A with _ | ad
  · have hn : l = [] := by
      cases l with
      | nil => rfl
      | cons c r =>
        obtain ⟨b, off, h, _⟩ := hc (by simp)
        cases h
    subst hn
    clear hc
    go_enter Tryz.func43, Tryz.ntmps43
    go_wp2
    go_ret
    exact ⟨_, rfl, World.ownsRow_nil _ _ _ _, Below.refl _ _⟩
  · have HC := Lib.hid (show ∀ j u, (cells10 l)[j]? = some u → w.cell? (ad.add j) = some u from fun j u hu => by
      have hj : j < (cells10 l).length := (List.getElem?_eq_some_iff.1 hu).1
      rw [cells10_len] at hj
      obtain ⟨b, off, h, _, hcc⟩ := hc (by omega)
      cases h
      rw [Addr.add_mid]
      exact hcc j u hu)
    clear hc
    go_enter Tryz.func43, Tryz.ntmps43
    go_wp2_with (at_builtin; refine wpList_append_own _ rfl _ _ 43 rfl w.heap.size 30 i0 _ 10 120 Tryz.underlying43 hi0 hz0 hz1 hz2 rfl (by omega) _ _ _ rfl (World.ownsRow_made w #[] 0 (Nat.le_refl _) (Nat.zero_le _) (by simp)) ad l.length cap (cells10 l) rfl ?qc1 ?qc2 ?qc3 ?qc4 ?qc5 ?qc6 ?_)
    case qc1 => exact cells10_len l
    case qc2 =>
      intro j u hj
      exact Lib.cell?_alloc_some _ (HC.out j u hj)
    case qc3 => exact cells10_one l
    case qc4 => unfold maxLen; omega
    case qc5 => omega
    case qc6 => simp
    intro v' w1 hown hgrow hnil
    go_wp2
    go_ret
    refine ⟨v', rfl, ?_, ?_⟩
    · unfold RRow
      simpa using hown
    · exact ((Below.refl _ w).alloc (Nat.le_refl _) _).grown hgrow (by simp) (by intro k hk; simp [Value.ownBlock] at hk; omega)
end Go.Proofs.YtfeaonbeklmfgaaGreatDoor
