/- Slices of cookies: their cells, rows of the call's own; slices.Clone of them; no condition but their number. -/
import Derived.Test.YtpdilhnbbokipaaDoorCi
import Derived.Lib.SliceRun
import Derived.Maps.AppendAt
namespace Go.Proofs.YtpdilhnbbokipaaDoor
set_option maxRecDepth 8000
open Go.RowKit

theorem Tryd.infoCookie : (Tryd.prog.info? 32).map (fun i => (i.zero, i.size, i.bytes)) = some (some (.agg #[.string ⟨#[]⟩, .string ⟨#[]⟩, .string ⟨#[]⟩, .int .i64 0, .bool false, .bool false]), 6, 64) := by kernel_rfl

def cells6 (l : List Ck.C) : List Value := l.flatMap cellsC
theorem cells6_cons (c : Ck.C) (l : List Ck.C) : cells6 (c :: l) = cellsC c ++ cells6 l := rfl
theorem cells6_len (l : List Ck.C) : (cells6 l).length = l.length * 6 := by
  induction l with
  | nil => rfl
  | cons c r ih => rw [cells6_cons, List.length_append, ih, List.length_cons]; show 6 + _ = _; omega
theorem cells6_append (a b : List Ck.C) : cells6 (a ++ b) = cells6 a ++ cells6 b := by simp [cells6]
theorem cells6_one (l : List Ck.C) : ∀ u ∈ cells6 l, u.oneCell' = true := by
  intro u hu
  unfold cells6 at hu
  rw [List.mem_flatMap] at hu
  obtain ⟨c, _, h⟩ := hu
  simp [cellsC] at h
  rcases h with rfl | rfl | rfl | rfl | rfl | rfl <;> rfl
theorem cells6_at : ∀ (l : List Ck.C) (k : Nat) (hk : k < l.length) (i : Nat), i < 6 → (cells6 l)[k * 6 + i]? = (cellsC l[k])[i]?
  | [], k, hk, _, _ => absurd hk (by simp)
  | c :: r, 0, _, i, hi => by
    rw [cells6_cons, Nat.zero_mul, Nat.zero_add, List.getElem?_append_left (by exact hi)]
    rfl
  | c :: r, k + 1, hk, i, hi => by
    have ih := cells6_at r k (by simpa using hk) i hi
    rw [cells6_cons, show (k + 1) * 6 + i = 6 + (k * 6 + i) by omega, List.getElem?_append_right (by show 6 ≤ _; omega)]
    show (cells6 r)[6 + (k * 6 + i) - 6]? = _
    rw [Nat.add_sub_cancel_left, ih]
    rfl

/-- The address A holds the cells of the cookies l, in a block below B. -/
def CCells (w : World) (B : Nat) (A : Option Addr) (l : List Ck.C) : Prop :=
  0 < l.length → ∃ b off, A = some ⟨b, off, none⟩ ∧ b < B ∧ ∀ j u, (cells6 l)[j]? = some u → w.cell? ⟨b, off + j, none⟩ = some u
/-- The slice value v reads as the cookies l, in a block below B. -/
def CReads (w : World) (B : Nat) (v : Value) (l : List Ck.C) : Prop := ∃ A cap, v = .slice A l.length cap ∧ CCells w B A l
/-- The slice value v owns the cookies l. -/
def CRow (base : Nat) (w : World) (v : Value) (l : List Ck.C) : Prop := w.ownsRow base 32 6 v l.length (cells6 l)

/-- The cells of one cookie. -/
def At6 (w : World) (b off : Nat) (c : Ck.C) : Prop := ∀ i u, (cellsC c)[i]? = some u → w.cell? ⟨b, off + i, none⟩ = some u
section
variable {w : World} {b off : Nat} {c : Ck.C}
theorem At6.c0 (h : At6 w b off c) : w.cell? ⟨b, off, none⟩ = some (.string (S c.name)) := h 0 _ rfl
theorem At6.c1 (h : At6 w b off c) : w.cell? ⟨b, off + 1, none⟩ = some (.string (S c.val)) := h 1 _ rfl
theorem At6.c2 (h : At6 w b off c) : w.cell? ⟨b, off + 2, none⟩ = some (.string (S c.path)) := h 2 _ rfl
theorem At6.c3 (h : At6 w b off c) : w.cell? ⟨b, off + 3, none⟩ = some (.int .i64 c.age) := h 3 _ rfl
theorem At6.c4 (h : At6 w b off c) : w.cell? ⟨b, off + 4, none⟩ = some (.bool c.sec) := h 4 _ rfl
theorem At6.c5 (h : At6 w b off c) : w.cell? ⟨b, off + 5, none⟩ = some (.bool c.http) := h 5 _ rfl
end
theorem CCells.at6 {w : World} {B : Nat} {A : Option Addr} {l : List Ck.C} (h : CCells w B A l) (k : Nat) (hk : k < l.length) : ∃ b off, A = some ⟨b, off, none⟩ ∧ b < B ∧ At6 w b (off + k * 6) l[k] := by
  obtain ⟨b, off, hA, hb, hc⟩ := h (by omega)
  refine ⟨b, off, hA, hb, fun i u hu => ?_⟩
  have hi : i < 6 := (List.getElem?_eq_some_iff.1 hu).1
  have := hc (k * 6 + i) u (by rw [cells6_at l k hk i hi]; exact hu)
  rwa [← Nat.add_assoc] at this

theorem CReads.below {w w' : World} {B : Nat} {v : Value} {l : List Ck.C} (h : CReads w B v l) (hb : Below B w w') : CReads w' B v l := by
  obtain ⟨A, cap, rfl, h⟩ := h
  refine ⟨A, cap, rfl, fun hn => ?_⟩
  obtain ⟨b, off, rfl, hlt, hc⟩ := h hn
  refine ⟨b, off, rfl, hlt, fun j u hu => ?_⟩
  rw [hb.cell (p := ⟨b, off + j, none⟩) hlt]
  exact hc j u hu
theorem CReads.more {w : World} {B B' : Nat} {v : Value} {l : List Ck.C} (h : CReads w B v l) (hB : B ≤ B') : CReads w B' v l := by
  obtain ⟨A, cap, rfl, h⟩ := h
  refine ⟨A, cap, rfl, fun hn => ?_⟩
  obtain ⟨b, off, rfl, hlt, hc⟩ := h hn
  exact ⟨b, off, rfl, by omega, hc⟩
/-- A row of the call's own reads. -/
theorem CRow.reads {base : Nat} {w : World} {v : Value} {l : List Ck.C} (h : CRow base w v l) : CReads w w.heap.size v l := by
  rcases h.2 with ⟨rfl, hn⟩ | ⟨g, cap, cur, rfl, hbase, hg, hr⟩
  · exact ⟨none, 0, by rw [hn], fun h0 => absurd h0 (by omega)⟩
  · refine ⟨_, cap, rfl, fun _ => ⟨g, 0, rfl, lt_of_blk hg, fun j u hu => ?_⟩⟩
    have := World.ownsRow.cells h (g := g) rfl j u hu
    rw [Addr.add_mid] at this
    exact this
theorem CRow.form {base : Nat} {w : World} {v : Value} {l : List Ck.C} (h : CRow base w v l) : ∃ A cap, v = .slice A l.length cap := by
  rcases h.2 with ⟨rfl, hn⟩ | ⟨g, cap, _, hv, _⟩
  · exact ⟨none, 0, by rw [hn]⟩
  · exact ⟨_, cap, hv⟩
theorem crow_snoc {base : Nat} {w1 : World} {l : List Ck.C} {c : Ck.C} {gg cap : Nat}
    (h : w1.ownsRow base 32 6 (.slice (some ⟨gg, 0, none⟩) (l.length + 1) cap) (l.length + 1) (cells6 l ++ cellsC c)) : CRow base w1 (.slice (some ⟨gg, 0, none⟩) (l.length + 1) cap) (l ++ [c]) := by
  unfold CRow
  rw [List.length_append, cells6_append]
  have e : cells6 [c] = cellsC c := by simp [cells6]
  rw [e]
  exact h

set_option maxHeartbeats 800000 in
/-- slices.Clone of cookies. -/
theorem clone_any (v : Value) (l : List Ck.C) (w : World) (hr : CReads w w.heap.size v l) (hl : l.length ≤ 1048576) :
    Calls Tryd.prog 46 #[v] w fun e w' => ∃ v', e = .returned v' ∧ CRow w.heap.size w' v' l ∧ Below w.heap.size w w' := by
  obtain ⟨i0, hi0, hz0, hz1, hz2⟩ := info_parts Tryd.infoCookie
  obtain ⟨A, cap, rfl, hc⟩ := hr
  have q22 : ∀ (w : World) (a : Option Addr) (n c n' c' : Nat), (binOp .eql 42 (.slice a n c) (.slice none n' c')).run Tryd.prog w = .ok (.bool a.isNone) w := fun w a n c n' c' => Lib.run_eql_slice_nil w _ _ a n c n' c' Tryd.underlying42
  rcases A with _ | ad
  · have hn : l = [] := by
      cases l with
      | nil => rfl
      | cons c r =>
        obtain ⟨b, off, h, _⟩ := hc (by simp)
        cases h
    subst hn
    clear hc
    go_enter Tryd.func46, Tryd.ntmps46
    go_wp2
    go_ret
    exact ⟨_, rfl, World.ownsRow_nil _ _ _ _, Below.refl _ _⟩
  · have HC := Lib.hid (show ∀ j u, (cells6 l)[j]? = some u → w.cell? (ad.add j) = some u from fun j u hu => by
      have hj : j < (cells6 l).length := (List.getElem?_eq_some_iff.1 hu).1
      rw [cells6_len] at hj
      obtain ⟨b, off, h, _, hcc⟩ := hc (by omega)
      cases h
      rw [Addr.add_mid]
      exact hcc j u hu)
    clear hc
    go_enter Tryd.func46, Tryd.ntmps46
    go_wp2_with (at_builtin; refine wpList_append_own _ rfl _ _ 42 rfl w.heap.size 32 i0 _ 6 64 Tryd.underlying42 hi0 hz0 hz1 hz2 rfl (by omega) _ _ _ rfl (World.ownsRow_made w #[] 0 (Nat.le_refl _) (Nat.zero_le _) (by simp)) ad l.length cap (cells6 l) rfl ?qc1 ?qc2 ?qc3 ?qc4 ?qc5 ?qc6 ?_)
    case qc1 => exact cells6_len l
    case qc2 =>
      intro j u hj
      exact Lib.cell?_alloc_some _ (HC.out j u hj)
    case qc3 => exact cells6_one l
    case qc4 => unfold maxLen; omega
    case qc5 => omega
    case qc6 => simp
    intro v' w1 hown hgrow hnil
    go_wp2
    go_ret
    refine ⟨v', rfl, ?_, ?_⟩
    · unfold CRow
      simpa using hown
    · exact ((Below.refl _ w).alloc (Nat.le_refl _) _).grown hgrow (by simp) (by intro k hk; simp [Value.ownBlock] at hk; omega)
end Go.Proofs.YtpdilhnbbokipaaDoor
