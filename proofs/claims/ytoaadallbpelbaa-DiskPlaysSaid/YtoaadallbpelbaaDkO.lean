/- What the statements' own few, do and behind do, for any things that are done. Conditions: at most 1048575 blocks staged; what is done to a disk has come in. -/
import Derived.Test.YtoaadallbpelbaaDkCr
namespace Go.Proofs.Ytoaadallbpelbaa
set_option maxRecDepth 8000
open Go.RowKit

namespace Dk
structure O where
  x : Int
  i : Int
  b : Bytes
  p : List Bool
instance : Inhabited O := ⟨⟨0, 0, [], []⟩⟩
def D.exE (d : D) (o : O) : Int := if o.x = 1 then d.writeE o.i o.b else if o.x = 2 then d.syncE else 0
def D.ex (d : D) (o : O) : D :=
  if o.x = 1 then d.write o.i o.b else if o.x = 2 then d.sync else if o.x = 3 then d.drop else if o.x = 4 then d.crash o.b else if o.x = 5 then { d with plan := o.p } else if o.x = 6 then d.stop o.i else d
def run (d : D) (l : List O) : D := l.foldl D.ex d
def okO (o : O) : Bool := decide (o.b.length ≤ 100) && decide (o.p.length ≤ 100)
def fewB (l : List O) : Bool := l.all okO && decide (l.length ≤ 40)
theorem run_snoc (d : D) (l : List O) (o : O) : run d (l ++ [o]) = (run d l).ex o := by unfold run; rw [List.foldl_append]; rfl
theorem ex_st (d : D) (o : O) : (d.ex o).st.length ≤ d.st.length + 1 := by
  unfold D.ex
  split
  · unfold D.write
    split
    · omega
    · split
      · omega
      · split
        · rw [asked_st]; omega
        · simp
  · split
    · unfold D.sync
      split
      · rw [asked_st]; omega
      · simp
    · split
      · unfold D.drop
        split
        · omega
        · simp
      · split
        · simp [D.crash]
        · split
          · simp
          · split
            · unfold D.stop
              split <;> simp
            · omega
theorem run_st (d : D) : ∀ (l : List O), (run d l).st.length ≤ d.st.length + l.length := by
  intro l
  suffices h : ∀ (r : List O) (e : D), (run e r).st.length ≤ e.st.length + r.length from h l d
  intro r
  induction r with
  | nil => intro e; exact Nat.le_refl _
  | cons o r ih =>
    intro e
    have h1 := ih (e.ex o)
    have h2 := ex_st e o
    rw [List.length_cons]
    show (run (e.ex o) r).st.length ≤ _
    omega
end Dk

def I64 (x : Int) : Prop := x ≤ 9223372036854775807 ∧ -9223372036854775808 ≤ x
/-- Bytes, bools below a bound. -/
def BInB (w : World) (bd : Nat) (A : Option Addr) (l : List UInt8) : Prop := 0 < l.length → ∃ b off, A = some ⟨b, off, none⟩ ∧ b < bd ∧ ∀ k (h : k < l.length), w.cell? ⟨b, off + k, none⟩ = some (B l[k])
def PInB (w : World) (bd : Nat) (A : Option Addr) (cap : Nat) (p : List Bool) : Prop := (A = none → p = [] ∧ cap = 0) ∧ (0 < p.length → ∃ b off, A = some ⟨b, off, none⟩ ∧ b < bd ∧ ∀ k (h : k < p.length), w.cell? ⟨b, off + k, none⟩ = some (.bool p[k]))
theorem BInB.keep {w w' : World} {bd : Nat} {A : Option Addr} {l : List UInt8} (h : BInB w bd A l) (hb : Below bd w w') : BInB w' bd A l := fun hn => by
  obtain ⟨b, off, e, hlt, hc⟩ := h hn
  exact ⟨b, off, e, hlt, fun k hk => (hb.cell (p := ⟨b, off + k, none⟩) hlt).trans (hc k hk)⟩
theorem PInB.keep {w w' : World} {bd : Nat} {A : Option Addr} {cap : Nat} {l : List Bool} (h : PInB w bd A cap l) (hb : Below bd w w') : PInB w' bd A cap l := ⟨h.1, fun hn => by
  obtain ⟨b, off, e, hlt, hc⟩ := h.2 hn
  exact ⟨b, off, e, hlt, fun k hk => (hb.cell (p := ⟨b, off + k, none⟩) hlt).trans (hc k hk)⟩⟩
theorem BInB.bin {w : World} {bd : Nat} {A : Option Addr} {l : List UInt8} (h : BInB w bd A l) (hb : bd ≤ w.heap.size) : BIn w A l := fun hn => by
  obtain ⟨b, off, e, hlt, hc⟩ := h hn
  exact ⟨b, off, e, by omega, hc⟩
/-- One thing that is done: its slices lie below a bound. -/
structure Om where
  A : Option Addr
  cA : Nat
  G : Option Addr
  cG : Nat
instance : Inhabited Om := ⟨⟨none, 0, none, 0⟩⟩
def opCells (o : Dk.O) (m : Om) : List Value := [.int .i64 o.x, .int .i64 o.i, .slice m.A o.b.length m.cA, .slice m.G o.p.length m.cG]
structure OpIn (w : World) (bd : Nat) (o : Dk.O) (m : Om) : Prop where
  b : BInB w bd m.A o.b
  p : PInB w bd m.G m.cG o.p
  lb : o.b.length ≤ 9223372036854775807
  lp : o.p.length ≤ 9223372036854775807
  i : I64 o.i
theorem OpIn.keep {w w' : World} {bd : Nat} {o : Dk.O} {m : Om} (h : OpIn w bd o m) (hb : Below bd w w') : OpIn w' bd o m := ⟨h.b.keep hb, h.p.keep hb, h.lb, h.lp, h.i⟩
def OpsIn (w : World) (bd : Nat) (A : Option Addr) (l : List Dk.O) : Prop :=
  0 < l.length → ∃ b off, A = some ⟨b, off, none⟩ ∧ b < bd ∧ ∀ k (h : k < l.length), ∃ m : Om, (∀ j v, (opCells l[k] m)[j]? = some v → w.cell? ⟨b, off + (k * 4 + j), none⟩ = some v) ∧ OpIn w bd l[k] m
theorem OpsIn.keep {w w' : World} {bd : Nat} {A : Option Addr} {l : List Dk.O} (h : OpsIn w bd A l) (hb : Below bd w w') : OpsIn w' bd A l := fun hn => by
  obtain ⟨b, off, e, hlt, hc⟩ := h hn
  refine ⟨b, off, e, hlt, fun k hk => ?_⟩
  obtain ⟨m, h1, h2⟩ := hc k hk
  exact ⟨m, fun j v hv => (hb.cell (p := ⟨b, off + (k * 4 + j), none⟩) hlt).trans (h1 j v hv), h2.keep hb⟩

set_option maxHeartbeats 800000 in
theorem few_any (w : World) (bd : Nat) (A : Option Addr) (cap : Nat) (l : List Dk.O) (h : OpsIn w bd A l) (hl : l.length ≤ 9223372036854775807) :
    Calls Try.prog 10 #[.slice A l.length cap] w fun e w' => e = .returned (.bool (Dk.fewB l)) ∧ w = w' := by
  obtain ⟨n, hn⟩ : ∃ n, n = l.length := ⟨_, rfl⟩
  rw [← hn] at hl ⊢
  have HN := Lib.hid hn
  clear hn
  go_enter Try.func10, Try.ntmps10
  go_wp2_with fail
  go_loop [3] (fun iv => ∃ k : Nat, k ≤ n ∧ iv = .int .i64 k ∧ (l.take k).all Dk.okO = true) (fun iv => n - (intOf iv).toNat)
  case atStart => exact ⟨0, Nat.zero_le _, rfl, rfl⟩
  case round =>
    obtain ⟨k, hk, rfl, hall⟩ := hrel
    by_cases hlt : k < n
    · have hkl : k < l.length := by have := HN.out; omega
      obtain ⟨b, off, rfl, _, hc⟩ := h (by omega)
      obtain ⟨m, hm, hin⟩ := hc k hkl
      have HSN : Hid ((l.take (k + 1)).all Dk.okO = Dk.okO l[k]) := Lib.hid (by rw [List.take_succ_eq_append_getElem hkl, List.all_append, hall]; simp)
      have HNO : Hid (Dk.okO l[k] = false → Dk.fewB l = false) := Lib.hid (fun h0 => by
        unfold Dk.fewB
        rw [List.all_eq_false.2 ⟨l[k], List.getElem_mem hkl, by rw [h0]; simp⟩]
        rfl)
      obtain ⟨o, ho⟩ : ∃ o, o = l[k] := ⟨_, rfl⟩
      rw [← ho] at hm hin HSN HNO
      have m2 := hm 2 _ rfl
      have m3 := hm 3 _ rfl
      have hlb := hin.lb
      have hlp := hin.lp
      rw [← Nat.add_assoc] at m2 m3
      clear ho hkl hc hm hin hall h
      have hk0 : (0 : Int) ≤ (k : Int) := by omega
      have hkI : (k : Int) < (n : Int) := by omega
      by_cases hb : o.b.length ≤ 100
      · have hb1 : ¬ (100 : Int) < (o.b.length : Int) := by omega
        have hb2 : ¬ 100 < o.b.length := by omega
        by_cases hp : o.p.length ≤ 100
        · have hp1 : ¬ (100 : Int) < (o.p.length : Int) := by omega
          have hp2 : ¬ 100 < o.p.length := by omega
          have HOK : Hid (Dk.okO o = true) := Lib.hid (by unfold Dk.okO; simp [hb, hp])
          go_wp2_with fail
          go_round
          case rel => exact ⟨k + 1, by omega, by go_num, by rw [HSN.out, HOK.out]⟩
          case measure => simp [intOf]; omega
        · have hp1 : (100 : Int) < (o.p.length : Int) := by omega
          have HE : Hid (Dk.fewB l = false) := Lib.hid (HNO.out (by unfold Dk.okO; simp [hp]))
          clear hp
          go_wp2_with fail
          go_ret
          exact ⟨ret_bool HE.out.symm, rfl⟩
      · have hb1 : (100 : Int) < (o.b.length : Int) := by omega
        have HE : Hid (Dk.fewB l = false) := Lib.hid (HNO.out (by unfold Dk.okO; simp [hb]))
        clear hb
        go_wp2_with fail
        go_ret
        exact ⟨ret_bool HE.out.symm, rfl⟩
    · have hkI : ¬ (k : Int) < (n : Int) := by omega
      have HE : Hid (Dk.fewB l = decide ((n : Int) ≤ 40)) := Lib.hid (by
        have e := HN.out
        rw [List.take_of_length_le (by omega)] at hall
        unfold Dk.fewB
        rw [hall, ← e]
        simp
        omega)
      clear hall
      go_wp2_with fail
      go_ret
      exact ⟨ret_bool HE.out.symm, rfl⟩
end Go.Proofs.Ytoaadallbpelbaa
