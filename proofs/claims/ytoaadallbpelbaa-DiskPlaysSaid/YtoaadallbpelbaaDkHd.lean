/- What the statements' own do does to a disk, where others lie beside it. Conditions: at most 1048575 blocks staged; what is done has come in. -/
import Derived.Test.YtoaadallbpelbaaDkK
namespace Go.Proofs.Ytoaadallbpelbaa
set_option maxRecDepth 8000
open Go.RowKit

theorem hd_after {F : Nat → Prop} {w w1 w' : World} {P : Nat} {d : Dk.D} (hb : Below w.heap.size w w1) (h : HD (Or F w1.heap.size w'.heap.size) w' P d ∧ OutP F w1 w') : HD (Or F w.heap.size w'.heap.size) w' P d ∧ OutP F w w' :=
  ⟨h.1.mono (fun x hx => hx.imp id (fun h => ⟨Nat.le_trans hb.size h.1, h.2⟩)), (OutP.of (F := F) hb).trans h.2 (fun _ _ h => h) (fun _ _ h => h)⟩

set_option maxHeartbeats 1600000 in
theorem do_hd (F : Nat → Prop) (base : Nat) (w : World) (P : Nat) (d : Dk.D) (o : Dk.O) (m : Om) (h : HD F w P d) (hF0 : ∀ x, F x → base ≤ x) (hb : base ≤ w.heap.size) (hst : d.st.length ≤ 1048575) (ho : OpIn w base o m) (hp1 : o.p.length ≤ 1048576) :
    Calls Try.prog 13 #[.pointer (some ⟨P, 0, none⟩), .agg (opCells o m).toArray] w (IntHD F w P (d.exE o) (d.ex o)) := by
  obtain ⟨x, i, b, p⟩ := o
  obtain ⟨A, cA, G, cG⟩ := m
  obtain ⟨hob, hop, hlb, hlp, hoi⟩ := ho
  dsimp only at hob hop hlb hlp hoi hp1
  have hba : Below w.heap.size w (w.alloc (.cells #[.int .i64 x, .int .i64 i, .slice A b.length cA, .slice G p.length cG] 32)) := (Below.refl _ _).alloc (Nat.le_refl _) _
  have HSD := Lib.hid (h.keep hba)
  have HB := Lib.hid (Nat.le_trans hb hba.size)
  have HOB := Lib.hid (hob.keep (hba.mono hb))
  have HPL : Hid (PlanIn (w.alloc (.cells #[.int .i64 x, .int .i64 i, .slice A b.length cA, .slice G p.length cG] 32)) G cG p) := Lib.hid (by
    obtain ⟨g1, g2⟩ := hop.keep (hba.mono hb)
    refine ⟨g1, hp1, fun hn => ?_⟩
    obtain ⟨bb, off, e, hlt, hc⟩ := g2 hn
    exact ⟨bb, off, e, by have := hba.size; omega, hc⟩)
  have HBA := Lib.hid hba
  have HNF : Hid (0 < b.length → ∀ ad, A = some ad → ¬ F ad.block) := Lib.hid (fun hn ad e hx => by
    obtain ⟨bb, off, e2, hlt, _⟩ := hob hn
    rw [e] at e2
    injection e2 with e2
    have h5 := hF0 _ hx
    rw [e2] at h5
    dsimp only at h5
    omega)
  unfold opCells
  clear h hob hop hba hb
  by_cases h1 : x = 1
  · subst h1
    have HE : Hid (∀ w', HD (Or F (w.alloc (.cells #[.int .i64 1, .int .i64 i, .slice A b.length cA, .slice G p.length cG] 32)).heap.size w'.heap.size) w' P (d.write i b) ∧ OutP F (w.alloc (.cells #[.int .i64 1, .int .i64 i, .slice A b.length cA, .slice G p.length cG] 32)) w' → IntHD F w P (Dk.D.exE d ⟨1, i, b, p⟩) (Dk.D.ex d ⟨1, i, b, p⟩) (.returned (.int .i64 (d.writeE i b))) w') := Lib.hid (by
      intro w' h1
      have := hd_after HBA.out h1
      exact ⟨rfl, this.1, this.2⟩)
    go_enter Try.func13, Try.ntmps13
    go_wp2_with fail
    refine (write_hd HSD.out hst i A cA b hlb (HOB.out.bin HB.out) HNF.out).mono ?_
    rintro e w' ⟨rfl, hs⟩
    have HE2 := Lib.hid (HE.out _ hs)
    clear hs HE
    go_wp2_with fail
    go_ret
    exact HE2.out
  by_cases h2 : x = 2
  · subst h2
    have HE : Hid (∀ w', HD (Or F (w.alloc (.cells #[.int .i64 2, .int .i64 i, .slice A b.length cA, .slice G p.length cG] 32)).heap.size w'.heap.size) w' P d.sync ∧ OutP F (w.alloc (.cells #[.int .i64 2, .int .i64 i, .slice A b.length cA, .slice G p.length cG] 32)) w' → IntHD F w P (Dk.D.exE d ⟨2, i, b, p⟩) (Dk.D.ex d ⟨2, i, b, p⟩) (.returned (.int .i64 (d.syncE))) w') := Lib.hid (by
      intro w' h1
      have := hd_after HBA.out h1
      exact ⟨rfl, this.1, this.2⟩)
    go_enter Try.func13, Try.ntmps13
    go_wp2_with fail
    refine (sync_hd HSD.out (by omega)).mono ?_
    rintro e w' ⟨rfl, hs⟩
    have HE2 := Lib.hid (HE.out _ hs)
    clear hs HE
    go_wp2_with fail
    go_ret
    exact HE2.out
  by_cases h3 : x = 3
  · subst h3
    have HE : Hid (∀ w', HD (Or F (w.alloc (.cells #[.int .i64 3, .int .i64 i, .slice A b.length cA, .slice G p.length cG] 32)).heap.size w'.heap.size) w' P d.drop ∧ OutP F (w.alloc (.cells #[.int .i64 3, .int .i64 i, .slice A b.length cA, .slice G p.length cG] 32)) w' → IntHD F w P (Dk.D.exE d ⟨3, i, b, p⟩) (Dk.D.ex d ⟨3, i, b, p⟩) (.returned (.int .i64 (0))) w') := Lib.hid (by
      intro w' h1
      have := hd_after HBA.out h1
      exact ⟨rfl, this.1, this.2⟩)
    go_enter Try.func13, Try.ntmps13
    go_wp2_with fail
    refine (drop_hd HSD.out).mono ?_
    rintro e w' ⟨rfl, hs⟩
    have HE2 := Lib.hid (HE.out _ hs)
    clear hs HE
    go_wp2_with fail
    go_ret
    exact HE2.out
  by_cases h4 : x = 4
  · subst h4
    have HE : Hid (∀ w', HD (Or F (w.alloc (.cells #[.int .i64 4, .int .i64 i, .slice A b.length cA, .slice G p.length cG] 32)).heap.size w'.heap.size) w' P (d.crash b) ∧ OutP F (w.alloc (.cells #[.int .i64 4, .int .i64 i, .slice A b.length cA, .slice G p.length cG] 32)) w' → IntHD F w P (Dk.D.exE d ⟨4, i, b, p⟩) (Dk.D.ex d ⟨4, i, b, p⟩) (.returned (.int .i64 (0))) w') := Lib.hid (by
      intro w' h1
      have := hd_after HBA.out h1
      exact ⟨rfl, this.1, this.2⟩)
    go_enter Try.func13, Try.ntmps13
    go_wp2_with fail
    refine (crash_hd HSD.out (by omega) A cA b hlb (HOB.out.bin HB.out) HNF.out).mono ?_
    rintro e w' ⟨rfl, hs⟩
    have HE2 := Lib.hid (HE.out _ hs)
    clear hs HE
    go_wp2_with fail
    go_ret
    exact HE2.out
  by_cases h5 : x = 5
  · subst h5
    have HE : Hid (∀ w', HD (Or F (w.alloc (.cells #[.int .i64 5, .int .i64 i, .slice A b.length cA, .slice G p.length cG] 32)).heap.size w'.heap.size) w' P { d with plan := p } ∧ OutP F (w.alloc (.cells #[.int .i64 5, .int .i64 i, .slice A b.length cA, .slice G p.length cG] 32)) w' → IntHD F w P (Dk.D.exE d ⟨5, i, b, p⟩) (Dk.D.ex d ⟨5, i, b, p⟩) (.returned (.int .i64 (0))) w') := Lib.hid (by
      intro w' h1
      have := hd_after HBA.out h1
      exact ⟨rfl, this.1, this.2⟩)
    go_enter Try.func13, Try.ntmps13
    go_wp2_with fail
    refine (faults_hd HSD.out G cG p HPL.out).mono ?_
    rintro e w' ⟨rfl, hs⟩
    have HE2 := Lib.hid (HE.out _ hs)
    clear hs HE
    go_wp2_with fail
    go_ret
    exact HE2.out
  by_cases h6 : x = 6
  · subst h6
    have HE : Hid (∀ w', HD (Or F (w.alloc (.cells #[.int .i64 6, .int .i64 i, .slice A b.length cA, .slice G p.length cG] 32)).heap.size w'.heap.size) w' P (d.stop i) ∧ OutP F (w.alloc (.cells #[.int .i64 6, .int .i64 i, .slice A b.length cA, .slice G p.length cG] 32)) w' → IntHD F w P (Dk.D.exE d ⟨6, i, b, p⟩) (Dk.D.ex d ⟨6, i, b, p⟩) (.returned (.int .i64 (0))) w') := Lib.hid (by
      intro w' h1
      have := hd_after HBA.out h1
      exact ⟨rfl, this.1, this.2⟩)
    go_enter Try.func13, Try.ntmps13
    go_wp2_with fail
    refine (stop_hd HSD.out i hoi).mono ?_
    rintro e w' ⟨rfl, hs⟩
    have HE2 := Lib.hid (HE.out _ hs)
    clear hs HE
    go_wp2_with fail
    go_ret
    exact HE2.out
  have HE : Hid (IntHD F w P (Dk.D.exE d ⟨x, i, b, p⟩) (Dk.D.ex d ⟨x, i, b, p⟩) (.returned (.int .i64 0)) (w.alloc (.cells #[.int .i64 x, .int .i64 i, .slice A b.length cA, .slice G p.length cG] 32))) := Lib.hid (by
    unfold Dk.D.exE Dk.D.ex
    dsimp only
    rw [if_neg h1, if_neg h2, if_neg h1, if_neg h2, if_neg h3, if_neg h4, if_neg h5, if_neg h6]
    exact ⟨rfl, HSD.out.mono (fun x hx => .inl hx), OutP.of HBA.out⟩)
  have e1 : (x == 1) = false := by simpa using h1
  have e2 : (x == 2) = false := by simpa using h2
  have e3 : (x == 3) = false := by simpa using h3
  have e4 : (x == 4) = false := by simpa using h4
  have e5 : (x == 5) = false := by simpa using h5
  have e6 : (x == 6) = false := by simpa using h6
  clear h1 h2 h3 h4 h5 h6
  go_enter Try.func13, Try.ntmps13
  go_wp2_with fail
  go_ret
  exact HE.out
end Go.Proofs.Ytoaadallbpelbaa
