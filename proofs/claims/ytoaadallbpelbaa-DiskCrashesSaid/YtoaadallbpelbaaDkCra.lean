/- What the statement on crashes answers: true. No condition. -/
import Derived.Test.YtoaadallbpelbaaDkK
import Derived.Test.YtoaadallbpelbaaDkRo
import Derived.Deep.DeepCutAuto
namespace Go.Proofs.Ytoaadallbpelbaa
set_option maxRecDepth 8000
open Go.RowKit

theorem Try.infoBytes : (Try.prog.info? 29).map (fun i => (i.zero, i.size, i.bytes)) = some (some (.slice none 0 0), 1, 24) := by kernel_rfl
def slv (g : Nat) : Value := .slice (some ⟨g, 0, none⟩) 32 32
/-- What lies in the row of blocks that were read. -/
def SeenAt (w : World) (lo : Nat) (gs : List Nat) (R : Nat → List UInt8) : Prop := ∀ i (h : i < gs.length), lo ≤ gs[i] ∧ w.heap[gs[i]]? = some (.cells (cB (R i)) 66 (0, 0))
theorem SeenAt.out {F : Nat → Prop} {w w' : World} {lo : Nat} {gs : List Nat} {R : Nat → List UInt8} (h : SeenAt w lo gs R) (ho : OutP F w w') (hs : ∀ x, lo ≤ x → x < w.heap.size → ¬ F x) : SeenAt w' lo gs R := fun i hi => by
  obtain ⟨h1, h2⟩ := h i hi
  exact ⟨h1, (ho.block _ (lt_of_blk' h2) (hs _ h1 (lt_of_blk' h2))).trans h2⟩

set_option maxHeartbeats 1600000 in
theorem crashes_out (w : World) (bl : Int) (Al C : Option Addr) (cl cc : Nat) (l : List Dk.O) (cuts : List UInt8) (hO : OpsIn w w.heap.size Al l) (hll : l.length ≤ 9223372036854775807) (h : Dk.fewB l = false ∨ 40 < bl ∨ 100 < cuts.length) :
    Calls Try.prog 5 #[.int .i64 bl, .slice Al l.length cl, .slice C cuts.length cc] w (AwakePost w) := by
  cases hf : Dk.fewB l with
  | false =>
    clear h
    go_enter Try.func5, Try.ntmps5
    go_wp2_with fail
    refine (awake_any w).mono ?_
    rintro e w1 ⟨rfl, hb1⟩
    have hFew := few_any w1 w.heap.size Al cl l (hO.keep hb1) hll
    rw [hf] at hFew
    go_wp2_with fail
    refine hFew.mono ?_
    rintro e w' ⟨rfl, rfl⟩
    clear hFew
    go_wp2_with fail
    go_ret
    exact ⟨rfl, hb1⟩
  | true =>
    by_cases hb : 40 < bl
    · clear h
      go_enter Try.func5, Try.ntmps5
      go_wp2_with fail
      refine (awake_any w).mono ?_
      rintro e w1 ⟨rfl, hb1⟩
      have hFew := few_any w1 w.heap.size Al cl l (hO.keep hb1) hll
      rw [hf] at hFew
      go_wp2_with fail
      refine hFew.mono ?_
      rintro e w' ⟨rfl, rfl⟩
      clear hFew
      go_wp2_with fail
      go_ret
      exact ⟨rfl, hb1⟩
    · have hl2 : (100 : Int) < (cuts.length : Int) := by
        rcases h with h | h | h
        · rw [hf] at h; cases h
        · exact absurd h hb
        · omega
      clear h
      go_enter Try.func5, Try.ntmps5
      go_wp2_with fail
      refine (awake_any w).mono ?_
      rintro e w1 ⟨rfl, hb1⟩
      have hFew := few_any w1 w.heap.size Al cl l (hO.keep hb1) hll
      rw [hf] at hFew
      go_wp2_with fail
      refine hFew.mono ?_
      rintro e w' ⟨rfl, rfl⟩
      clear hFew
      go_wp2_with fail
      go_ret
      exact ⟨rfl, hb1⟩
end Go.Proofs.Ytoaadallbpelbaa
