/- What the calls Pairs of the document's package does, for any two slices of pairs. -/
import Derived.Test.YtbpeohadgplaaaaDoorWalkF
import Derived.Laws.StructEq
namespace Go.Proofs.YtbpeohadgplaaaaDoor
set_option maxRecDepth 8000
open Go.RowKit

/-- The address A holds the cells of the pairs l, in a block below B. -/
def PCells (w : World) (B : Nat) (A : Option Addr) (l : List Pct.PairL) : Prop :=
  0 < l.length → ∃ b off, A = some ⟨b, off, none⟩ ∧ b < B ∧ ∀ k (h : k < l.length), w.cell? ⟨b, off + k * 2, none⟩ = some (.string (S l[k].1)) ∧ w.cell? ⟨b, off + k * 2 + 1, none⟩ = some (.string (S l[k].2))

theorem Tryd.heldPair : Tryd.prog.stoodInHeld 51 = false := by kernel_rfl
theorem Tryd.guardPair : Tryd.prog.eqGuardType Tryd.prog.depth 51 = false := by kernel_rfl
theorem Tryd.fieldsPair : Tryd.prog.underlying 51 = some (.struct (Tryd.prog.fieldsOf 51)) := by kernel_rfl
theorem Tryd.sizeString : (Tryd.prog.info? 9).map (·.size) = some 1 := by kernel_rfl

theorem run_neq_pair (w : World) (x y x' y' : ByteArray) : (binOp .neq 51 (.agg #[.string x, .string y]) (.agg #[.string x', .string y'])).run Tryd.prog w = .ok (.bool (!((x.toList == x'.toList) && (y.toList == y'.toList)))) w := by
  rw [run_neq_struct, run_equalIn_struct w 9999 _ _ _ Tryd.fieldsPair Tryd.heldPair]
  simp [Program.fieldsOf, Tryd.underlying51, Op.eqFields, go_sem]
  by_cases h1 : x.toList = x'.toList <;> by_cases h2 : y.toList = y'.toList <;> simp [h1, h2]
theorem run_neq_eq (w : World) (q q' : Pct.PairL) (h : q = q') : (binOp .neq 51 (.agg #[.string (S q.1), .string (S q.2)]) (.agg #[.string (S q'.1), .string (S q'.2)])).run Tryd.prog w = .ok (.bool false) w := by
  rw [run_neq_pair, h]
  simp
theorem run_neq_ne (w : World) (q q' : Pct.PairL) (h : q ≠ q') : (binOp .neq 51 (.agg #[.string (S q.1), .string (S q.2)]) (.agg #[.string (S q'.1), .string (S q'.2)])).run Tryd.prog w = .ok (.bool true) w := by
  rw [run_neq_pair]
  have hs : ∀ l : List UInt8, (S l).toList = l := fun l => by rw [Lib.toList_data]; rfl
  rw [hs, hs, hs, hs]
  have : ¬ (q.1 = q'.1 ∧ q.2 = q'.2) := fun ⟨h1, h2⟩ => h (Prod.ext h1 h2)
  by_cases h1 : q.1 = q'.1
  · have h2 : ¬ q.2 = q'.2 := fun h2 => this ⟨h1, h2⟩
    simp [h1, h2]
  · simp [h1]

set_option maxHeartbeats 400000 in
theorem pairs_same (A A' : Option Addr) (cap cap' : Nat) (l m : List Pct.PairL) (w : World) (hlm : l.length = m.length) (hl : PCells w w.heap.size A l) (hm : PCells w w.heap.size A' m) (hb : l.length ≤ 1099511627776) :
    Calls Tryd.prog 29 #[.slice A l.length cap, .slice A' m.length cap'] w fun e w' => e = .returned (.bool (decide (l = m))) ∧ ∃ n, w' = w.drewN n := by
  have HLM := Lib.hid hlm
  have hne : ((l.length : Int) != (m.length : Int)) = false := by simp; omega
  clear hlm
  go_enter Tryd.func29, Tryd.ntmps29
  go_wp2
  go_loopw [5] (fun i wr => ∃ k : Nat, k ≤ l.length ∧ i = .int .i64 k ∧ l.take k = m.take k ∧ ∃ n, wr = w.drewN n) (fun i _ => l.length - (intOf i).toNat)
  case atStart => exact ⟨0, Nat.zero_le _, rfl, rfl, 0, rfl⟩
  case round =>
    obtain ⟨k, hk, rfl, htk, n, rfl⟩ := hrel
    have HT := Lib.hid htk
    clear htk
    by_cases hlt : k < l.length
    · have hlt' : k < m.length := by have := HLM.out; omega
      obtain ⟨b, off, rfl, hbb, hc⟩ := hl (by omega)
      obtain ⟨b', off', rfl, hbb', hc'⟩ := hm (by omega)
      obtain ⟨c0, c1⟩ := hc k hlt
      obtain ⟨d0, d1⟩ := hc' k hlt'
      clear hc hc' hl hm
      have i0 : (0 : Int) ≤ (k : Int) := by omega
      have i1 : (k : Int) < (l.length : Int) := by omega
      have i2 : (k : Int) < (m.length : Int) := by omega
      have hgd := fun w' : World => run_eqGuard_agg (P := Tryd.prog) w' .neq 51 (.tmp 20) (.tmp 24) #[.string (S l[k].1), .string (S l[k].2)] #[.string (S m[k].1), .string (S m[k].2)] Tryd.guardPair
      by_cases hq : l[k] = m[k]
      · have hneq := fun w' : World => run_neq_eq w' l[k] m[k] hq
        have HQ := Lib.hid hq
        clear hq
        go_wp2
        go_quiet (fail)
        go_wp2
        go_roundw
        case rel =>
          refine ⟨k + 1, by omega, by go_num, ?_, _, rfl⟩
          rw [List.take_succ_eq_append_getElem hlt, List.take_succ_eq_append_getElem hlt', HT.out, HQ.out]
        case measure => simp [intOf]; omega
      · have hneq := fun w' : World => run_neq_ne w' l[k] m[k] hq
        have HQ := Lib.hid hq
        clear hq
        go_wp2
        go_quiet (fail)
        go_wp2
        go_ret
        refine ⟨ret_bool ?_, _, World.drewN_drewN _ _ _⟩
        have hne' : l ≠ m := by
          intro h
          subst h
          exact HQ.out rfl
        simp [hne']
    · have hkl : l = m := by
        have := HT.out
        rwa [List.take_of_length_le (by omega), List.take_of_length_le (by have := HLM.out; omega)] at this
      have HK := Lib.hid hkl
      clear hkl
      go_wp2
      go_ret
      exact ⟨ret_bool (by rw [HK.out]; simp), n, rfl⟩

set_option maxHeartbeats 400000 in
theorem pairs_other (A A' : Option Addr) (cap cap' : Nat) (l m : List Pct.PairL) (w : World) (hlm : l.length ≠ m.length) :
    Calls Tryd.prog 29 #[.slice A l.length cap, .slice A' m.length cap'] w fun e w' => e = .returned (.bool (decide (l = m))) ∧ ∃ n, w' = w.drewN n := by
  have hne : ((l.length : Int) != (m.length : Int)) = true := by simp; omega
  have HLM := Lib.hid hlm
  clear hlm
  go_enter Tryd.func29, Tryd.ntmps29
  go_wp2
  go_ret
  refine ⟨ret_bool ?_, 0, rfl⟩
  have hne' : l ≠ m := by
    intro h
    subst h
    exact HLM.out rfl
  simp [hne']

/-- The slice value v reads as the pairs l, in a block below B. -/
def PReads (w : World) (B : Nat) (v : Value) (l : List Pct.PairL) : Prop := ∃ A cap, v = .slice A l.length cap ∧ PCells w B A l

theorem pairs_any (v v' : Value) (l m : List Pct.PairL) (w : World) (hl : PReads w w.heap.size v l) (hm : PReads w w.heap.size v' m) (hb : l.length ≤ 1099511627776) :
    Calls Tryd.prog 29 #[v, v'] w fun e w' => e = .returned (.bool (decide (l = m))) ∧ ∃ n, w' = w.drewN n := by
  obtain ⟨A, cap, rfl, h1⟩ := hl
  obtain ⟨A', cap', rfl, h2⟩ := hm
  by_cases h : l.length = m.length
  · exact pairs_same A A' cap cap' l m w h h1 h2 hb
  · exact pairs_other A A' cap cap' l m w h

theorem PReads.below {w w' : World} {B : Nat} {v : Value} {l : List Pct.PairL} (h : PReads w B v l) (hb : Below B w w') : PReads w' B v l := by
  obtain ⟨A, cap, rfl, h⟩ := h
  refine ⟨A, cap, rfl, fun hn => ?_⟩
  obtain ⟨b, off, rfl, hlt, hc⟩ := h hn
  refine ⟨b, off, rfl, hlt, fun k hk => ?_⟩
  rw [hb.cell (p := ⟨b, off + k * 2, none⟩) hlt, hb.cell (p := ⟨b, off + k * 2 + 1, none⟩) hlt]
  exact hc k hk
theorem PReads.more {w : World} {B B' : Nat} {v : Value} {l : List Pct.PairL} (h : PReads w B v l) (hB : B ≤ B') : PReads w B' v l := by
  obtain ⟨A, cap, rfl, h⟩ := h
  refine ⟨A, cap, rfl, fun hn => ?_⟩
  obtain ⟨b, off, rfl, hlt, hc⟩ := h hn
  exact ⟨b, off, rfl, by omega, hc⟩

theorem cells2_at : ∀ (l : List Pct.PairL) (k : Nat) (hk : k < l.length), (cells2 l)[k * 2]? = some (.string (S l[k].1)) ∧ (cells2 l)[k * 2 + 1]? = some (.string (S l[k].2))
  | [], k, hk => absurd hk (by simp)
  | q :: r, 0, _ => ⟨rfl, rfl⟩
  | q :: r, k + 1, hk => by
    have ih := cells2_at r k (by simpa using hk)
    have e : cells2 (q :: r) = .string (S q.1) :: .string (S q.2) :: cells2 r := rfl
    rw [e, show (k + 1) * 2 = k * 2 + 1 + 1 by omega, show k * 2 + 1 + 1 + 1 = (k * 2 + 1) + 1 + 1 by omega]
    simpa using ih

/-- A row of the call's own reads. -/
theorem PRow.reads {base : Nat} {w : World} {v : Value} {l : List Pct.PairL} (h : PRow base w v l) : PReads w w.heap.size v l := by
  rcases h.2 with ⟨rfl, hn⟩ | ⟨g, cap, cur, rfl, hbase, hg, hr⟩
  · exact ⟨none, 0, by rw [hn], fun h0 => absurd h0 (by omega)⟩
  · refine ⟨_, cap, rfl, fun _ => ⟨g, 0, rfl, ?_, fun k hk => ?_⟩⟩
    · rcases Nat.lt_or_ge g w.heap.size with hlt | hge
      · exact hlt
      · rw [Array.getElem?_eq_none hge] at hg; cases hg
    · have hc := World.ownsRow.cells h (g := g) rfl
      have h2 := cells2_at l k hk
      have a1 := hc _ _ h2.1
      have a2 := hc _ _ h2.2
      rw [Addr.add_mid] at a1 a2
      exact ⟨a1, by rw [← Nat.add_assoc] at a2; exact a2⟩
end Go.Proofs.YtbpeohadgplaaaaDoor
