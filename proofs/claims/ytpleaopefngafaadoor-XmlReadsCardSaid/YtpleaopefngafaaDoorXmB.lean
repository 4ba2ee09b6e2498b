/- What package xml's Escape answers, for any text of at most 2^26 bytes, where its table reads as its text lays it. -/
import Derived.Test.YtpleaopefngafaaDoorXmA
import Derived.Deep.MidRow
namespace Go.Proofs.YtpleaopefngafaaDoor
set_option maxRecDepth 8000
open Go.RowKit

namespace Xm
def tabC : List (UInt8 × Bytes) := [(38, wAmp), (60, wLt), (62, wGt), (34, wQuot), (39, wApos)]
def tabP (k : Nat) : UInt8 := (tabC.getD k (0, [])).1
def tabW (k : Nat) : Bytes := (tabC.getD k (0, [])).2
def stE (l : Bytes) : Nat → Bytes
  | 0 => l
  | k + 1 => Lib.replaceAll (stE l k) [tabP k] (tabW k)
theorem stE_five (l : Bytes) : stE l 5 = escape l := chainE_is l
def eK : Nat → UInt8 → Bytes
  | 0 => fun c => [c]
  | k + 1 => fun c => if c = tabP k then tabW k else eK k c
theorem eK_len : ∀ k, k ≤ 5 → ∀ c, (eK k c).length ≤ 6
  | 0, _, _ => by simp [eK]
  | k + 1, hk, c => by
    unfold eK
    split
    · match k, hk with
      | 0, _ => decide
      | 1, _ => decide
      | 2, _ => decide
      | 3, _ => decide
      | 4, _ => decide
    · exact eK_len k (by omega) c
theorem stE_is (l : Bytes) : ∀ k, k ≤ 5 → stE l k = l.flatMap (eK k)
  | 0, _ => by simp [stE, eK]
  | k + 1, hk => by
    have ih := stE_is l k (by omega)
    have step : ∀ k, k < 5 → ([tabP k] == tabW k) = false ∧ eK k (tabP k) = [tabP k] ∧ ∀ c, c ≠ tabP k → ∀ x ∈ eK k c, x ≠ tabP k := by
      intro k hk
      match k, hk with
      | 0, _ => exact ⟨by decide, by decide, no_of (by decide +kernel)⟩
      | 1, _ => exact ⟨by decide, by decide, no_of (by decide +kernel)⟩
      | 2, _ => exact ⟨by decide, by decide, no_of (by decide +kernel)⟩
      | 3, _ => exact ⟨by decide, by decide, no_of (by decide +kernel)⟩
      | 4, _ => exact ⟨by decide, by decide, no_of (by decide +kernel)⟩
    obtain ⟨h1, h2, h3⟩ := step k (by omega)
    have := esc_step (eK k) (tabP k) (tabW k) h1 h2 h3 l
    rw [stE, ih, this]
    rfl
theorem flat_len {e : UInt8 → Bytes} (h : ∀ c, (e c).length ≤ 6) : ∀ l : Bytes, (l.flatMap e).length ≤ 6 * l.length
  | [] => by simp
  | c :: l => by
    have ih := flat_len h l
    have h1 := h c
    rw [List.flatMap_cons, List.length_append, List.length_cons]
    omega
theorem stE_len (l : Bytes) (k : Nat) (hk : k ≤ 5) : (stE l k).length ≤ 6 * l.length := by
  rw [stE_is l k hk]
  exact flat_len (eK_len k hk) l
theorem tabW_len (k : Nat) (hk : k < 5) : (tabW k).length ≤ 6 := by
  match k, hk with
  | 0, _ => decide
  | 1, _ => decide
  | 2, _ => decide
  | 3, _ => decide
  | 4, _ => decide
end Xm

/-- The table, as its text lays it. -/
def escCells : List Value := Xm.tabC.flatMap fun q => [.string (S [q.1]), .string (S q.2)]
structure EnvX (w : World) : Prop where
  big : ∃ m, w.cell? ⟨1, 0, none⟩ = some (.int .i64 m)
  esc : w.rangeAt 0 0 escCells
  lt : 1 < w.heap.size ∧ 0 < w.heap.size
theorem EnvX.next {w w' : World} (h : EnvX w) (hb : Below w.heap.size w w') : EnvX w' := by
  have hlt := h.lt
  refine ⟨?_, ?_, Nat.lt_of_lt_of_le hlt.1 hb.size, Nat.lt_of_lt_of_le hlt.2 hb.size⟩
  · obtain ⟨m, hm⟩ := h.big
    exact ⟨m, (hb.cell (p := ⟨1, 0, none⟩) hlt.1).trans hm⟩
  · have he := h.esc
    unfold World.rangeAt at he ⊢
    intro j u hj
    exact (hb.cell (p := ⟨0, 0 + j, none⟩) hlt.2).trans (he j u hj)
theorem replaceAll_to (l old new : List UInt8) (w : World) (he : EnvX w) (hl : l.length ≤ 4294967280) (h1 : 1 ≤ old.length) (hn : new.length ≤ 10) :
    Calls Tryd.prog 46 #[.string (S l), .string (S old), .string (S new)] w fun e w' => e = .returned (.string (S (Lib.replaceAll l old new))) ∧ Below w.heap.size w w' := by
  obtain ⟨m, hm⟩ := he.big
  have hz : (S l).size = l.length := rfl
  have hc := Lib.countB_le (S old) h1 _ (S l) (Nat.le_refl _)
  have hzn : (S new).size = new.length := rfl
  have hmul : Lib.countB (S l) (S old) * (S new).size ≤ 4294967280 * 10 := Nat.mul_le_mul (by omega) (by omega)
  refine (Tryd.strings_ReplaceAll (S l) (S old) (S new) m w (by omega) hm h1 (by omega)).mono ?_
  rintro e w' ⟨rfl, hb⟩
  refine ⟨?_, hb⟩
  rw [S_toList, S_toList, S_toList]
  rfl
theorem escs_at (k : Nat) (hk : k < 5) : List.take 2 (List.drop (k * 2) escCells) = [.string (S [Xm.tabP k]), .string (S (Xm.tabW k))] := by
  match k, hk with
  | 0, _ => rfl
  | 1, _ => rfl
  | 2, _ => rfl
  | 3, _ => rfl
  | 4, _ => rfl

theorem run_esc_index (w : World) (k : Nat) (hk : k < 5) : (Instr.index 72 (.agg escCells.toArray) (.int .i64 (k : Int))).run Tryd.prog w = .ok (.agg #[.string (S [Xm.tabP k]), .string (S (Xm.tabW k))]) w := by
  have hx := escs_at k hk
  simp [Instr.index, run_underlying Tryd.underlying72, asIntOf, hk, hx, go_sem]
end Go.Proofs.YtpleaopefngafaaDoor
