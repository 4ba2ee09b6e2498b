/- What strconv.Itoa answers, for any number from 0 on, where the table of strconv that it reaches reads as its text lays it. -/
import Derived.Test.YtehgigfngelkjaaDoorEd
namespace Go.Proofs.YtehgigfngelkjaaDoor
set_option maxRecDepth 8000
open Go.RowKit

/-- What the calls read of package-level variables. -/
structure EnvC (w : World) : Prop where
  big : ∃ m, w.cell? ⟨0, 0, none⟩ = some (.int .i64 m)
  tab : Lib.TabIs Tryd.prog w "internal/strconv.uint64pow10" .u64 Lib.pow10Tab
  lt : 0 < w.heap.size ∧ 1 < w.heap.size
theorem gTab : Tryd.prog.globalNamed "internal/strconv.uint64pow10" = some 1 := by kernel_rfl
theorem EnvC.below {base : Nat} {w w' : World} (h : EnvC w) (hb : Below base w w') (h5 : 0 < base ∧ 1 < base) : EnvC w' := by
  have hbs := hb.size
  have hlt := h.lt
  refine ⟨?_, ?_, ⟨Nat.lt_of_lt_of_le hlt.1 hbs, Nat.lt_of_lt_of_le hlt.2 hbs⟩⟩
  · obtain ⟨m, hm⟩ := h.big
    exact ⟨m, (hb.cell (p := ⟨0, 0, none⟩) h5.1).trans hm⟩
  · have ht := h.tab
    unfold Lib.TabIs World.var? at ht ⊢
    rw [gTab] at ht ⊢
    simp only [Option.bind_some] at ht ⊢
    rw [hb.block 1 h5.2]
    exact ht
theorem EnvC.next {w w' : World} (h : EnvC w) (hb : Below w.heap.size w w') : EnvC w' := h.below hb h.lt
theorem itoa_any (n : Int) (w : World) (he : EnvC w) (h0 : 0 ≤ n) (hn : n ≤ 9223372036854775807) :
    Calls Tryd.prog 31 #[.int .i64 n] w (Told w (.returned (.string (S (Lib.decDigits n.toNat))))) := by
  refine (Tryd.strconv_Itoa n (by omega) (by omega) w he.tab).mono ?_
  rintro e w' ⟨rfl, k, os, rfl⟩
  refine ⟨?_, ?_⟩
  · unfold Lib.itoa
    rw [if_neg (by omega)]
    rfl
  · refine (below_drewN (Below.refl w.heap.size w) k).trans ⟨rfl, rfl, rfl, by simp [Go.Sort.grow], fun i hi => ?_⟩
    show ((w.drewN k).heap ++ os)[i]? = _
    rw [Array.getElem?_append_left (by simpa using hi)]
theorem dec_len (n : Int) (h1 : n ≤ 99999999) : (Lib.decDigits n.toNat).length ≤ 100 := by
  have key : ∀ (k m : Nat), m < 10 ^ k → (Lib.decDigits m).length ≤ k + 1 := by
    intro k
    induction k with
    | zero => intro m hm; rw [Lib.decDigits, dif_pos (by omega)]; simp
    | succ k ih =>
      intro m hm
      rw [Lib.decDigits]
      split
      · simp
      · rw [List.length_append]
        have := ih (m / 10) (by rw [Nat.pow_succ] at hm; omega)
        simp
        omega
  have := key 8 n.toNat (by omega)
  omega

end Go.Proofs.YtehgigfngelkjaaDoor
