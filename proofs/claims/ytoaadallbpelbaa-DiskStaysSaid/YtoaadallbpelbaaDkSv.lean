/- What the statement on what stays as it is answers, at any input: true. No condition. -/
import Derived.Test.YtoaadallbpelbaaDkSu
namespace Go.Proofs.Ytoaadallbpelbaa
set_option maxRecDepth 8000
open Go.RowKit

/-- THE STATEMENT's CALL, at any input. -/
theorem diskStays_any (w : World) (bl i : Int) (hi64 : I64 i) (Al B' C : Option Addr) (cl cb cc : Nat) (l : List Dk.O) (b cuts : List UInt8) (hO : OpsIn w w.heap.size Al l) (hll : l.length ≤ 9223372036854775807) (hB : BInB w w.heap.size B' b) (lb : b.length ≤ 9223372036854775807) (hC : BInB w w.heap.size C cuts) (lc : cuts.length ≤ 9223372036854775807) :
    Calls Try.prog 6 #[.int .i64 bl, .slice Al l.length cl, .int .i64 i, .slice B' b.length cb, .slice C cuts.length cc] w (AwakePost w) := by
  by_cases h : Dk.fewB l = false ∨ 40 < bl ∨ 32 < b.length ∨ 100 < cuts.length
  · exact stays_out w bl i hi64 Al B' C cl cb cc l b cuts hO hll hB lb hC lc h
  · have hf : Dk.fewB l = true := by
      cases hf : Dk.fewB l with
      | true => rfl
      | false => exact absurd (.inl hf) h
    have h1 : ¬ 40 < bl := fun h' => h (.inr (.inl h'))
    have h2 : ¬ 32 < b.length := fun h' => h (.inr (.inr (.inl h')))
    have h3 : ¬ 100 < cuts.length := fun h' => h (.inr (.inr (.inr h')))
    by_cases hi : i < 0 ∨ ((Dk.run (Dk.new bl) l).n : Int) ≤ i
    · exact stays_bad w bl i hi64 Al B' C cl cb cc l b cuts hO hll hB lb hC lc hf h1 h2 h3 hi
    · obtain ⟨j, rfl⟩ := Int.eq_ofNat_of_zero_le (show 0 ≤ i by omega)
      exact stays_good w bl j Al B' C cl cb cc l b cuts hO hll hB lb hC lc hf h1 h2 h3 (by omega)
end Go.Proofs.Ytoaadallbpelbaa
