/- What the calls More and Of of package crc do, for any sum and any bytes, where the table reads as its text lays it; texts of at most 2^63 - 1 bytes. From what the statements list of the table of sums to its cells, a world that meets it, and slices of bytes that came in; no condition. -/
import Derived.Test.YtkmljbbnpjlehaaDoorRows
import Derived.Test.YtkmljbbnpjlehaaDoorMg00
import Derived.WalkKit
import Derived.WalkSpells
import Derived.WalkLawsBesides
import Derived.Lib.Hide
import Derived.Deep.MidRow
import Derived.Laws.BitsAllLaws
import Derived.Laws.IdiomStrings
import Derived.RegionTactic
import Derived.Deep.LoopGhost
import Derived.Deep.QuietTactic
import Derived.BigQuiet
import Derived.IntWalk
import Derived.ProofKit
import Derived.LaidMore
import Derived.OpenShut
import Derived.Stop.Joined
import Derived.Lib.LaidTab
import Derived.ChangeSlices
import Derived.Carry
namespace Go.Proofs.YtkmljbbnpjlehaaDoor
set_option maxRecDepth 8000
open Go.RowKit

abbrev B (c : UInt8) : Value := .int .u8 (c.toNat : Int)
abbrev U (n : Nat) : Value := .int .u32 (n : Int)
theorem ret_bool {a b : Bool} (h : a = b) : Ending.returned (.bool a) = .returned (.bool b) := by rw [h]
theorem ret_u32 {a b : Nat} (h : a = b) : Ending.returned (.int .u32 (a : Int)) = .returned (.int .u32 (b : Int)) := by rw [h]
theorem ret_u32' {a : Int} {b : Nat} (h : a = b) : Ending.returned (.int .u32 a) = .returned (.int .u32 (b : Int)) := by rw [h]

/-- The table, as its text lays it. -/
def tabCells : List Value := Cr.H.map fun (n : Nat) => Value.int .u32 (n : Int)
def Hs (w : World) : Prop := w.rangeAt 0 0 tabCells
theorem Hs.cell {w : World} (h : Hs w) {k : Nat} (hk : k < 16) : w.cell? ⟨0, k, none⟩ = some (.int .u32 (Cr.hv k : Int)) := by
  have hl : Cr.H.length = 16 := rfl
  have := h k (.int .u32 (Cr.hv k : Int)) (by simp [tabCells, Cr.hv, List.getD, List.getElem?_eq_getElem (show k < Cr.H.length by omega)])
  rwa [Nat.zero_add] at this
/-- The slice at A holds the bytes l. -/
def BC (w : World) (A : Option Addr) (l : List UInt8) : Prop :=
  0 < l.length → ∃ b off, A = some ⟨b, off, none⟩ ∧ ∀ k (h : k < l.length), w.cell? ⟨b, off + k, none⟩ = some (B l[k])
theorem wrap_u8_u32 (c : UInt8) : IntKind.u32.wrap (c.toNat : Int) = (c.toNat : Int) := by
  have := Cr.u8_lt c
  rw [IntKind.wrap_u32']; omega

set_option maxHeartbeats 400000 in
theorem more_any (s : Nat) (A : Option Addr) (l : List UInt8) (cap : Nat) (w : World) (hs : s < 4294967296) (hH : Hs w) (hl : l.length ≤ 9223372036854775807) (hb : BC w A l) :
    Calls Tryd.prog 104 #[U s, .slice A l.length cap] w fun e w' => e = .returned (U (Cr.more s l)) ∧ w = w' := by
  obtain ⟨x0, hx0⟩ : ∃ x, x = Cr.mx ^^^ s := ⟨_, rfl⟩
  have h0 : bits .xor .u32 4294967295 (s : Int) = (x0 : Int) := by rw [hx0]; exact u32_xor_nat 4294967295 s (by decide) hs
  have hsg : IntKind.u32.signed = false := rfl
  have hmx : IntKind.u32.max = 4294967295 := by decide
  have hx0l : x0 < 4294967296 := by rw [hx0]; exact Cr.mx_lt hs
  have H0 := Lib.hid hx0
  clear hx0
  go_enter Tryd.func104, Tryd.ntmps104
  go_wp2
  clear h0
  go_loop [5, 12] (fun x i => ∃ k : Nat, k ≤ l.length ∧ i = .int .i64 k ∧ x = U (Cr.go x0 (l.take k))) (fun _ i => l.length - (intOf i).toNat)
  case atStart => exact ⟨0, Nat.zero_le _, rfl, rfl⟩
  case round =>
    obtain ⟨k, hk, rfl, rfl⟩ := hrel
    obtain ⟨x, hx⟩ : ∃ x, x = Cr.go x0 (l.take k) := ⟨_, rfl⟩
    have hxl : x < 4294967296 := by rw [hx]; exact Cr.go_lt _ hx0l
    rw [← hx]
    have HX := Lib.hid hx
    clear hx
    by_cases hlt : k < l.length
    · obtain ⟨b, off, rfl, hcell⟩ := hb (by omega)
      have hc := hcell k hlt
      clear hcell
      have hcw := wrap_u8_u32 l[k]
      have hcl := Cr.u8_lt l[k]
      obtain ⟨c, hc0⟩ : ∃ c, c = l[k].toNat := ⟨_, rfl⟩
      rw [B, ← hc0] at hc
      rw [← hc0] at hcw hcl
      have HC := Lib.hid hc0
      clear hc0
      obtain ⟨y, hy⟩ : ∃ y, y = x ^^^ c := ⟨_, rfl⟩
      have h1 : bits .xor .u32 (x : Int) (c : Int) = (y : Int) := by rw [hy]; exact u32_xor_nat x c hxl (by omega)
      have hyl : y < 4294967296 := by rw [hy]; exact Nat.xor_lt_two_pow (n := 32) hxl (by omega)
      have HY := Lib.hid hy
      clear hy
      obtain ⟨j, hj⟩ : ∃ j, j = y % 16 := ⟨_, rfl⟩
      have h2 : bits .and .u32 (y : Int) 15 = (j : Int) := by rw [hj, ← nat_mask4]; exact u32_and_nat y 15 hyl (by decide)
      have hjl : j < 16 := by omega
      have hcj := hH.cell hjl
      obtain ⟨z, hz⟩ : ∃ z, z = y / 16 ^^^ Cr.hv j := ⟨_, rfl⟩
      have h3 : bits .xor .u32 ((y : Int) / 16) (Cr.hv j : Int) = (z : Int) := by
        rw [hz]; exact u32_xor_nat (y / 16) (Cr.hv j) (by omega) (Cr.hv_lt j hjl)
      have hzl : z < 4294967296 := by rw [hz]; exact Nat.xor_lt_two_pow (n := 32) (by omega) (Cr.hv_lt j hjl)
      have HZ : Hid (z = Cr.sts 4 y) := Lib.hid (by rw [hz, hj, Cr.nib])
      clear hz hj
      obtain ⟨i, hi⟩ : ∃ i, i = z % 16 := ⟨_, rfl⟩
      have h4 : bits .and .u32 (z : Int) 15 = (i : Int) := by rw [hi, ← nat_mask4]; exact u32_and_nat z 15 hzl (by decide)
      have hil : i < 16 := by omega
      have hci := hH.cell hil
      obtain ⟨v, hv⟩ : ∃ v, v = z / 16 ^^^ Cr.hv i := ⟨_, rfl⟩
      have h5 : bits .xor .u32 ((z : Int) / 16) (Cr.hv i : Int) = (v : Int) := by
        rw [hv]; exact u32_xor_nat (z / 16) (Cr.hv i) (by omega) (Cr.hv_lt i hil)
      have HV : Hid (v = Cr.sts 4 z) := Lib.hid (by rw [hv, hi, Cr.nib])
      clear hv hi
      go_wp2
      go_round
      case rel =>
        refine ⟨k + 1, by omega, by go_num, ?_⟩
        rw [List.take_succ_eq_append_getElem hlt, Cr.go_snoc, ← HX.out, ← HC.out, ← HY.out, ← HZ.out, ← HV.out]
      case measure => simp [intOf]; omega
    · obtain ⟨y, hy⟩ : ∃ y, y = Cr.mx ^^^ x := ⟨_, rfl⟩
      have h1 : bits .xor .u32 4294967295 (x : Int) = (y : Int) := by rw [hy]; exact u32_xor_nat 4294967295 x (by decide) hxl
      have HY := Lib.hid hy
      clear hy
      go_wp2
      go_ret
      refine ⟨ret_u32 ?_, rfl⟩
      rw [HY.out, HX.out, List.take_of_length_le (by omega), H0.out]
      rfl

set_option maxHeartbeats 400000 in
theorem of_any (A : Option Addr) (l : List UInt8) (cap : Nat) (w : World) (hH : Hs w) (hl : l.length ≤ 9223372036854775807) (hb : BC w A l) :
    Calls Tryd.prog 105 #[.slice A l.length cap] w fun e w' => e = .returned (U (Cr.sum l)) ∧ w = w' := by
  go_enter Tryd.func105, Tryd.ntmps105
  go_wp2_with (go_at_call 104; refine (more_any 0 _ _ _ _ (by decide) hH hl hb).mono ?_; rintro e w' ⟨rfl, rfl⟩)
  go_ret
  exact ⟨rfl, rfl⟩
end Go.Proofs.YtkmljbbnpjlehaaDoor
namespace Go.Proofs.YtkmljbbnpjlehaaDoor
set_option maxRecDepth 8000
open Go.ChangeShapes Go.WideShapes Go.ChangeAt Go.WideMaps Go.WideElems Go.RowKit

theorem Tryd.own : ownKnob Tryd.prog.godebug = none := by kernel_rfl
theorem Tryd.laidOut : laidOutB Tryd.prog = true := by kernel_rfl
theorem Tryd.gHalves : Tryd.prog.globalNamed "matricula/crc.halves" = some 0 := by kernel_rfl
theorem Tryd.tHalves : (Tryd.prog.globals[0]?).map (·.type) = some 173 := by kernel_rfl
theorem Tryd.cellsU32 : Tryd.prog.cellsOf 56 = 1 := by kernel_rfl
theorem Tryd.cellsByte : Tryd.prog.cellsOf 5 = 1 := by kernel_rfl
theorem Tryd.cellsHalves : Tryd.prog.cellsOf 173 = 16 := by kernel_rfl

abbrev laidH : List (String × DataW Unit) := [("matricula/crc.halves", Rows.laid_matricula_crc_halves)]
def tabInts : List Int := Cr.H.map fun (n : Nat) => (n : Int)
theorem laid_tab : (Rows.laid_matricula_crc_halves : DataW Unit) = Lib.tabData .u32 tabInts := rfl

theorem hs_of_laid {W : World} (h : laidMetH Tryd.prog laidH W) : Hs W := by
  rw [MakeChecks.laidMetH_plain _ _ _ (by kernel_rfl)] at h
  have h2 : laidMet Tryd.prog [("matricula/crc.halves", Lib.tabData .u32 tabInts)] W := h
  have ht : Lib.TabIs Tryd.prog W "matricula/crc.halves" .u32 tabInts := Lib.tabIs_of_head Tryd.gHalves Tryd.tHalves Tryd.underlying173 Tryd.underlying56 Tryd.cellsU32 Tryd.cellsHalves h2
  intro j v hv
  have hl : Cr.H.length = 16 := rfl
  have hj : j < 16 := by
    have := (List.getElem?_eq_some_iff.1 hv).1
    simpa [tabCells, hl] using this
  have hc := ht.cell Tryd.gHalves j hj
  have hv' : tabCells[j]? = some (.int .u32 (Cr.hv j : Int)) := by
    simp [tabCells, Cr.hv, List.getD, List.getElem?_eq_getElem (show j < Cr.H.length by omega)]
  rw [hv'] at hv
  obtain rfl := Option.some.inj hv
  rw [Nat.zero_add, hc]
  have e : tabInts.getD j 0 = (Cr.hv j : Int) := by
    unfold tabInts Cr.hv
    have hl : j < Cr.H.length := hj
    simp [List.getD, List.getElem?_eq_getElem hl]
  rw [e]

theorem door_met (os : Os) (args : Array Value) : laidMetH Tryd.prog laidH ((World.doorLaid Tryd.prog 400 os).forCall (fun _ _ => 0) ⟨#[], args, []⟩).memory :=
  laidMetH_of_parts3 (fuel := 8) (laidMet_of_run' 8 (by kernel_rfl) (by kernel_rfl)) (by kernel_rfl) (by kernel_rfl)

/-- A slice of bytes that came in, below a bound. -/
def BCells (w : World) (bd : Nat) (A : Option Addr) (l : List UInt8) : Prop :=
  0 < l.length → ∃ b off, A = some ⟨b, off, none⟩ ∧ b < bd ∧ ∀ k (h : k < l.length), w.cell? ⟨b, off + k, none⟩ = some (B l[k])
theorem BCells.below {w w' : World} {A : Option Addr} {l : List UInt8} (h : BCells w w.heap.size A l) (hb : Below w.heap.size w w') : BCells w' w.heap.size A l := fun hn => by
  obtain ⟨b, off, h1, h2, h3⟩ := h hn
  exact ⟨b, off, h1, h2, fun k hk => (hb.cell (p := ⟨b, off + k, none⟩) h2).trans (h3 k hk)⟩
theorem BCells.bc {w : World} {bd : Nat} {A : Option Addr} {l : List UInt8} (h : BCells w bd A l) : BC w A l := fun hn => by
  obtain ⟨b, off, h1, _, h3⟩ := h hn
  exact ⟨b, off, h1, h3⟩

theorem open_bytes {H : Type} {enc : TypeId × Value → H} {W : World} {base0 : Nat} {sp : Nat → Bool} {held : Bool} {fuel : Nat} {a0 : Option Addr} {len cap : Nat} {x : DataW H × List MemPlace}
    (hf : DataW.trod enc Tryd.prog W base0 sp held fuel 36 [.slice a0 len cap] = some x) :
    ∃ l : List UInt8, l.length = len ∧ BCells W W.heap.size a0 l ∧ len ≤ cap ∧ cap ≤ 9223372036854775807 := by
  rcases open_ints Tryd.underlying36 Tryd.underlying5 Tryd.cellsByte hf with ⟨hcs, _⟩ | ⟨a, len', cap', zs, hcs, _, hlc, hcm, hzl, _, hx, hwf⟩
  · simp only [List.cons.injEq, Value.slice.injEq, and_true] at hcs
    obtain ⟨rfl, rfl, rfl⟩ := hcs
    exact ⟨[], rfl, fun h => absurd h (by simp), by omega, by omega⟩
  · simp only [List.cons.injEq, Value.slice.injEq, and_true] at hcs
    obtain ⟨rfl, rfl, rfl⟩ := hcs
    have hle : len ≤ zs.length := by rw [hzl]; split <;> omega
    refine ⟨(zs.take len).map fun z => UInt8.ofNat z.toNat, by simp; omega, fun hn => ?_, hlc, by unfold maxLen at hcm; omega⟩
    have hn' : 0 < len := by simp at hn; omega
    obtain ⟨b, off, spot⟩ := a
    have hspot : spot = none := by simpa [Addr.add] using World.cell?_spot (hx 0 (by omega))
    subst hspot
    have hadd : ∀ j, (⟨b, off, none⟩ : Addr).add j = ⟨b, off + j, none⟩ := fun j => Addr.add_mid b off j
    refine ⟨b, off, rfl, ?_, fun k hk => ?_⟩
    · have := World.block_lt_of_cell? W _ (hx 0 (by omega))
      rw [hadd] at this
      exact this
    · have hk' : k < len := by simp at hk; omega
      have hkz : k < zs.length := by omega
      have h2 := hx k hkz
      rw [hadd] at h2
      rw [h2]
      have hg : zs.getD k 0 = zs[k] := by simp [List.getD, hkz]
      have hw := hwf zs[k] (List.getElem_mem hkz)
      rw [hg]
      simp only [List.getElem_map, List.getElem_take]
      unfold B
      have hr : 0 ≤ zs[k] ∧ zs[k] < 256 := by
        have e1 : IntKind.u8.min = 0 := by decide
        have e2 : IntKind.u8.max = 255 := by decide
        simp [Lit.wf] at hw
        omega
      have : ((UInt8.ofNat zs[k].toNat).toNat : Int) = zs[k] := by
        rw [UInt8.toNat_ofNat']
        omega
      rw [this]

section
variable {H : Type} {enc : TypeId × Value → H} {P : Program} {w : World} {base : Nat} {spare : Nat → Bool} {held : Bool}
theorem trodAll_five {t0 t1 t2 t3 t4 : TypeId} {args : Array Value} {ds : List (DataW H)} {ps : List MemPlace} (h : DataW.TrodAll enc P w base spare held [t0, t1, t2, t3, t4] args.toList ds ps) :
    ∃ v0 v1 v2 v3 v4 d0 d1 d2 d3 d4 p0 p1 p2 p3 p4, args = #[v0, v1, v2, v3, v4] ∧ ds = [d0, d1, d2, d3, d4] ∧ ps = p0 ++ (p1 ++ (p2 ++ (p3 ++ p4))) ∧ DataW.Trod enc P w base spare held t0 v0 d0 p0 ∧ DataW.Trod enc P w base spare held t1 v1 d1 p1 ∧ DataW.Trod enc P w base spare held t2 v2 d2 p2 ∧ DataW.Trod enc P w base spare held t3 v3 d3 p3 ∧ DataW.Trod enc P w base spare held t4 v4 d4 p4 := by
  obtain ⟨v0, as0, d0, ds0, p0, q0, ha, rfl, rfl, h0, hrest⟩ := trodAll_cons h
  obtain ⟨v1, as1, d1, ds1, p1, q1, rfl, rfl, rfl, h1, hrest1⟩ := trodAll_cons hrest
  obtain ⟨v2, as2, d2, ds2, p2, q2, rfl, rfl, rfl, h2, hrest2⟩ := trodAll_cons hrest1
  obtain ⟨v3, as3, d3, ds3, p3, q3, rfl, rfl, rfl, h3, hrest3⟩ := trodAll_cons hrest2
  obtain ⟨v4, as4, d4, ds4, p4, q4, rfl, rfl, rfl, h4, hrest4⟩ := trodAll_cons hrest3
  obtain ⟨rfl, rfl, rfl⟩ := trodAll_nil hrest4
  exact ⟨v0, v1, v2, v3, v4, d0, d1, d2, d3, d4, p0, p1, p2, p3, p4, by cases args; simp_all, rfl, by simp, h0, h1, h2, h3, h4⟩
theorem trodAll_mk5 {t0 t1 t2 t3 t4 : TypeId} {v0 v1 v2 v3 v4 : Value} {d0 d1 d2 d3 d4 : DataW H} {p0 p1 p2 p3 p4 : List MemPlace} (h0 : DataW.Trod enc P w base spare held t0 v0 d0 p0) (h1 : DataW.Trod enc P w base spare held t1 v1 d1 p1)
    (h2 : DataW.Trod enc P w base spare held t2 v2 d2 p2) (h3 : DataW.Trod enc P w base spare held t3 v3 d3 p3) (h4 : DataW.Trod enc P w base spare held t4 v4 d4 p4) :
    DataW.TrodAll enc P w base spare held [t0, t1, t2, t3, t4] [v0, v1, v2, v3, v4] [d0, d1, d2, d3, d4] (p0 ++ (p1 ++ (p2 ++ (p3 ++ p4)))) := ⟨p0, p1 ++ (p2 ++ (p3 ++ p4)), h0, trodAll_mk4 h1 h2 h3 h4, rfl⟩
end
end Go.Proofs.YtkmljbbnpjlehaaDoor
