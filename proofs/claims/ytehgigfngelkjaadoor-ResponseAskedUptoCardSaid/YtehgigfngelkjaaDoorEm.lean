/- What strings.Split and package response's guessStatus answer, for any text of at most 2^30 bytes, where the variables of strconv that they reach read as their texts lay them. -/
import Derived.Test.YtehgigfngelkjaaDoorEe
import Derived.Test.YtehgigfngelkjaaDoorRspRead
import Derived.Lib.AtoiAllCases
import Derived.Lib.SplitLaws
import Derived.Laws.OwnMore
namespace Go.Proofs.YtehgigfngelkjaaDoor
set_option maxRecDepth 8000
open Go.RowKit

namespace Rsp
def verT : Bytes := [72, 84, 84, 80, 47, 49, 46, 49, 32]
def gs (l : Bytes) : Int := Ck.atoiV (Lib.cut (Lib.trimPrefix l verT) [32]).1
def hdrOf (l : Bytes) : Pct.PairL := ((Lib.cut l sep2).1, (Lib.cut l sep2).2.1)
def lines (s : Bytes) : List Bytes := Lib.split (Lib.cut s gap).1 Req.crlf
def guessS (s : Bytes) : Int := gs ((lines s).headD [])
def guessL (s : Bytes) : List Pct.PairL := (((lines s).drop 1).take ((lines s).length - 2)).map hdrOf
def guessB (s : Bytes) : Bytes := (Lib.cut s gap).2.1
end Rsp

/-- What Read reads of package-level variables besides. -/
structure EnvE (w : World) : Prop where
  env : EnvC w
  syn : ∃ ev, w.cell? ⟨4, 0, none⟩ = some ev ∧ (ev = .nilIface ∨ ∃ te pe, ev = .iface te pe)
  ran : ∃ ev, w.cell? ⟨5, 0, none⟩ = some ev ∧ (ev = .nilIface ∨ ∃ te pe, ev = .iface te pe)
  lt : 4 < w.heap.size ∧ 5 < w.heap.size
theorem EnvE.next {w w' : World} (h : EnvE w) (hb : Below w.heap.size w w') : EnvE w' := by
  have hlt := h.lt
  refine ⟨h.env.next hb, ?_, ?_, Nat.lt_of_lt_of_le hlt.1 hb.size, Nat.lt_of_lt_of_le hlt.2 hb.size⟩
  · obtain ⟨ev, h1, h2⟩ := h.syn
    exact ⟨ev, (hb.cell (p := ⟨4, 0, none⟩) hlt.1).trans h1, h2⟩
  · obtain ⟨ev, h1, h2⟩ := h.ran
    exact ⟨ev, (hb.cell (p := ⟨5, 0, none⟩) hlt.2).trans h1, h2⟩
theorem EnvE.below {w w' : World} {B : Nat} (h : EnvE w) (hb : Below B w w') (hB : w.heap.size ≤ B) : EnvE w' := h.next (hb.mono hB)

theorem cut_to (l sep : List UInt8) (a b : List UInt8) (f : Bool) (w : World) (he : EnvC w) (hl : l.length ≤ 1073741824) (h : Lib.cut l sep = (a, b, f)) :
    Calls Tryd.prog 42 #[.string (S l), .string (S sep)] w fun e w' => e = .returned (.tuple #[.string (S a), .string (S b), .bool f]) ∧ Below w.heap.size w w' := by
  obtain ⟨m, hm⟩ := he.big
  refine (Tryd.strings_Cut (S l) (S sep) m w (by show l.length < _; omega) hm).mono ?_
  rintro e w' ⟨rfl, n, rfl⟩
  refine ⟨?_, below_drewN (Below.refl _ _) n⟩
  rw [S_toList, S_toList, h]
  rfl
theorem cut_len (l sep : List UInt8) : (Lib.cut l sep).1.length ≤ l.length ∧ (Lib.cut l sep).2.1.length ≤ l.length := by
  unfold Lib.cut
  split
  · exact ⟨by rw [List.length_take]; omega, by rw [List.length_drop]; omega⟩
  · exact ⟨Nat.le_refl _, by simp⟩
theorem atoi_any (l : List UInt8) (w : World) (he : EnvE w) (hl : l.length ≤ 1073741824) :
    Calls Tryd.prog 70 #[.string (S l)] w fun e w' => ∃ v, e = .returned (.tuple #[.int .i64 (Ck.atoiV l), v]) ∧ Below w.heap.size w w' := by
  have hz : (S l).size = l.length := rfl
  match h : Lib.atoiAll l with
  | Lib.NumEnd.ok v =>
    refine (Tryd.strconv_Atoi_ok (S l) (by omega) v h w).mono ?_
    rintro e w' ⟨rfl, hw⟩
    refine ⟨.nilIface, by unfold Ck.atoiV; rw [h], ?_⟩
    rcases hw with rfl | ⟨t, rfl⟩
    · exact Below.refl _ _
    · exact Lib.bytesWorld_below w _ t
  | Lib.NumEnd.syntax =>
    obtain ⟨ev, h1, h2⟩ := he.syn
    refine (Tryd.strconv_Atoi_syntax (S l) (by omega) h ev w h1 h2).mono ?_
    rintro e w' ⟨N, rfl, _, _, hb⟩
    exact ⟨_, by unfold Ck.atoiV; rw [h], hb⟩
  | Lib.NumEnd.range =>
    obtain ⟨ev, h1, h2⟩ := he.ran
    refine (Tryd.strconv_Atoi_range (S l) (by omega) h ev w h1 h2).mono ?_
    rintro e w' ⟨N, rfl, _, _, hb⟩
    exact ⟨_, by unfold Ck.atoiV; rw [h]; rfl, hb⟩


theorem trimPrefix_to (l p : List UInt8) (w : World) :
    Calls Tryd.prog 69 #[.string (S l), .string (S p)] w fun e w' => e = .returned (.string (S (Lib.trimPrefix l p))) ∧ w = w' := by
  refine (Tryd.strings_TrimPrefix (S l) (S p) w).mono ?_
  rintro e w' ⟨rfl, hw⟩
  refine ⟨?_, hw.symm⟩
  rw [S_toList, S_toList]
  rfl
theorem trimPrefix_len (l p : List UInt8) : (Lib.trimPrefix l p).length ≤ l.length := by
  unfold Lib.trimPrefix
  split
  · rw [List.length_drop]; omega
  · exact Nat.le_refl _
theorem int_wf {v : Int} (h1 : -9223372036854775808 ≤ v) (h2 : v ≤ 9223372036854775807) : (Lit.int .i64 v).wf = true := by
  simp [Lit.wf]
  exact ⟨h1, h2⟩
theorem atoiV_wf (l : List UInt8) : (Lit.int .i64 (Ck.atoiV l)).wf = true := by
  match h : Lib.atoiAll l with
  | Lib.NumEnd.ok v =>
    have e : Ck.atoiV l = v := by unfold Ck.atoiV; rw [h]
    rw [e]
    exact int_wf (Lib.atoiAll_bounds h).1 (Lib.atoiAll_bounds h).2
  | Lib.NumEnd.syntax =>
    have e : Ck.atoiV l = 0 := by unfold Ck.atoiV; rw [h]
    rw [e]; decide
  | Lib.NumEnd.range =>
    have e : Ck.atoiV l = Lib.atoiSat l := by unfold Ck.atoiV; rw [h]
    rw [e]
    unfold Lib.atoiSat
    split
    · decide
    · decide

theorem S_of_data (x : ByteArray) : S x.data.toList = x := by
  show (⟨x.data.toList.toArray⟩ : ByteArray) = x
  simp
theorem split_len (s sep : ByteArray) (h1 : 1 ≤ sep.size) : (Lib.split s.data.toList sep.data.toList).length = Lib.countB s sep + 1 := by
  have h := Lib.splitB_data sep 0 (Lib.countB s sep) s
  have h2 := Lib.splitB_all sep h1 0 (Lib.countB s sep) s rfl
  have h3 := congrArg List.length h
  rw [List.length_map, h2] at h3
  exact h3.symm
theorem split_cells (s sep : ByteArray) : (Lib.splitB sep 0 (Lib.countB s sep) s).map Value.string = strsV (Lib.split s.data.toList sep.data.toList) := by
  have h := Lib.splitB_data sep 0 (Lib.countB s sep) s
  have h2 : Lib.split s.data.toList sep.data.toList = (Lib.splitB sep 0 (Lib.countB s sep) s).map (·.data.toList) := h.symm
  rw [h2]
  unfold strsV
  rw [List.map_map]
  refine List.map_congr_left fun x _ => ?_
  show Value.string x = Value.string (S x.data.toList)
  rw [S_of_data]
theorem split_to (l sep : List UInt8) (w : World) (he : EnvC w) (hl : l.length ≤ 1073741824) (h1 : 1 ≤ sep.length) :
    Calls Tryd.prog 50 #[.string (S l), .string (S sep)] w fun e w' => e = .returned (.slice (some ⟨w.heap.size, 0, none⟩) (Lib.split l sep).length (Lib.split l sep).length) ∧
      SRow w.heap.size w' (.slice (some ⟨w.heap.size, 0, none⟩) (Lib.split l sep).length (Lib.split l sep).length) (Lib.split l sep) ∧ Below w.heap.size w w' := by
  obtain ⟨m, hm⟩ := he.big
  have hn := split_len (S l) (S sep) h1
  have hc := split_cells (S l) (S sep)
  rw [S_toList, S_toList] at hn hc
  have hle := Lib.countB_le (S sep) h1 _ (S l) (Nat.le_refl _)
  have hz : (S l).size = l.length := rfl
  refine (Tryd.strings_Split (S l) (S sep) m w (by show l.length < _; omega) hm h1).mono ?_
  rintro e w' ⟨rfl, rfl⟩
  rw [hc]
  have hown := World.ownsRow_lit (base := w.heap.size) (e := 9) (size := 1) w (strsV (Lib.split l sep)).toArray (Lib.split l sep).length (Nat.le_refl _) (by unfold maxLen; omega) (by simp [strsV])
  refine ⟨by rw [hn], ?_, (Below.refl _ _).alloc (Nat.le_refl _) _⟩
  unfold SRow
  simpa using hown

set_option maxHeartbeats 400000 in
theorem guessStatus_any (l : List UInt8) (w : World) (he : EnvE w) (hl : l.length ≤ 1073741824) :
    Calls Tryd.prog 51 #[.string (S l)] w fun e w' => e = .returned (.int .i64 (Rsp.gs l)) ∧ Below w.heap.size w w' := by
  have HG := Lib.hid (show Rsp.gs l = Ck.atoiV (Lib.cut (Lib.trimPrefix l Rsp.verT) [32]).1 from rfl)
  have hT : ∀ w' : World, Calls Tryd.prog 69 #[.string (S l), .string ⟨#[72, 84, 84, 80, 47, 49, 46, 49, 32]⟩] w' fun e w'' => e = .returned (.string (S (Lib.trimPrefix l Rsp.verT))) ∧ w' = w'' := fun w' => trimPrefix_to l Rsp.verT w'
  have h1 := trimPrefix_len l Rsp.verT
  obtain ⟨x, hx⟩ : ∃ x, x = Lib.trimPrefix l Rsp.verT := ⟨_, rfl⟩
  rw [← hx] at HG hT h1
  clear hx
  have h2 := cut_len x [32]
  obtain ⟨a, b, f, hc⟩ : ∃ a b f, Lib.cut x [32] = (a, b, f) := ⟨_, _, _, rfl⟩
  rw [hc] at HG h2
  have hal : a.length ≤ 1073741824 := by have := h2.1; simp only at this; omega
  have hxl : x.length ≤ 1073741824 := by omega
  clear h1 h2
  have hC := fun w' h => cut_to x [32] a b f w' h hxl hc
  clear hc hl
  go_enter Tryd.func51, Tryd.ntmps51
  go_wp2_with fail
  refine (hT _).mono ?_
  rintro e w1 ⟨rfl, rfl⟩
  go_wp2_with fail
  refine (hC _ he.env).mono ?_
  rintro e w2 ⟨rfl, hb2⟩
  go_wp2_with fail
  refine (atoi_any a w2 (he.next hb2) hal).mono ?_
  rintro e w3 ⟨v, rfl, hb3⟩
  go_wp2
  go_ret
  exact ⟨by rw [HG.out]; rfl, hb2.trans (hb3.mono hb2.size)⟩
end Go.Proofs.YtehgigfngelkjaaDoor
