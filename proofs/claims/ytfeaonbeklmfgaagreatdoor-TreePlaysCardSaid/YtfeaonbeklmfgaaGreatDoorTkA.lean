/- Texts, slices of bytes and of texts, strings.Cut at one byte, the document's Texts: what they answer; for texts of at most 2^40 bytes. (Of earlier texts, for a program without pairs.) -/
import Derived.Test.YtfeaonbeklmfgaaGreatDoorRows
import Derived.Test.YtfeaonbeklmfgaaGreatDoorPure
import Derived.Test.YtfeaonbeklmfgaaGreatDoorForms
import Derived.WalkKit
import Derived.WalkSpells
import Derived.WalkLawsBesides
import Derived.Lib.Hide
import Derived.Deep.MidRow
import Derived.Deep.RegionHeld3
import Derived.Deep.AppendLies
import Derived.Laws.IdiomStrings
import Derived.Lib.BufferRead
import Derived.Laws.BitsLemmas
import Derived.Lib.Walk
import Derived.Lib.Strings
import Derived.Lib.Bytealg
import Derived.Lib.IndexLaws
import Derived.Deep.Draws
import Derived.Deep.QuietTactic
import Derived.BigQuiet
import Derived.RegionTactic
import Derived.Deep.LoopGhost
import Derived.Laws.StructEq
import Derived.Lib.IndexBytes
import Derived.Test.YtfeaonbeklmfgaaGreatDoorShelf
import Derived.Test.YtfeaonbeklmfgaaGreatDoorTkP
import Derived.Deep.SlicePairs
namespace Go.Proofs.YtfeaonbeklmfgaaGreatDoor
set_option maxRecDepth 8000
open Go.RowKit

abbrev B (c : UInt8) : Value := .int .u8 (c.toNat : Int)
theorem ret_bool {a b : Bool} (h : a = b) : Ending.returned (.bool a) = .returned (.bool b) := by rw [h]
theorem ne_int {a b : Nat} (h : ((a : Int) != (b : Int)) = true) : a ≠ b := by
  intro e; subst e; simp at h
theorem eq_int {a b : Nat} (h : ((a : Int) != (b : Int)) = false) : a = b := by
  have : (a : Int) = b := by simpa using h
  omega
theorem Tryz.infoByte : (Tryz.prog.info? 5).map (fun i => (i.zero, i.size, i.bytes)) = some (some (.int .u8 0), 1, 1) := by kernel_rfl
/-- The slice value v owns the bytes l, in a row of block 'base' or later. -/
def Row (base : Nat) (w : World) (v : Value) (l : List UInt8) : Prop := w.ownsRow base 5 1 v l.length (l.map B)
/-- 'string(b)' of a row of the call's own. -/
theorem row_string {base : Nat} {w : World} {v : Value} {l : List UInt8} (h : Row base w v l) : (convert 94 9 v).run Tryz.prog w = .ok (.string ⟨l.toArray⟩) w := by
  rcases h.2 with ⟨rfl, hn⟩ | ⟨g, cap, cur, rfl, _, hg, _, _, _, ht⟩
  · have : l = [] := List.length_eq_zero_iff.1 hn
    subst this
    exact Lib.run_convert_nil_bytes w 94 9 5 0 Tryz.underlying94 Tryz.underlying5 Tryz.underlying9
  · refine run_convert_bytes_back w 94 9 5 ⟨g, 0, none⟩ cap l Tryz.underlying94 Tryz.underlying5 Tryz.underlying9 (fun j hj => ?_)
    exact h.cells (g := g) rfl j _ (by simp [hj])
def S (l : List UInt8) : ByteArray := ⟨l.toArray⟩
def Told (w : World) (e' : Ending) (e : Ending) (w' : World) : Prop := e = e' ∧ Below w.heap.size w w'
theorem take_snoc (s : ByteArray) (k : Nat) (h : k < s.size) : s.data.toList.take (k + 1) = s.data.toList.take k ++ [s[k]] := by
  rw [List.take_succ_eq_append_getElem (by simpa using h)]; rfl

theorem extract_toList (s : ByteArray) (a : Nat) : (s.extract a s.size).data.toList = s.data.toList.drop a := by
  rw [ByteArray.data_extract, Array.toList_extract, List.extract_eq_take_drop, List.take_of_length_le]
  rw [List.length_drop]
  simp
theorem row_snoc {base : Nat} {w1 : World} {acc : List UInt8} {c : UInt8} {gg cap : Nat}
    (h : w1.ownsRow base 5 1 (.slice (some ⟨gg, 0, none⟩) (acc.length + 1) cap) (acc.length + 1) (acc.map B ++ [B c])) : Row base w1 (.slice (some ⟨gg, 0, none⟩) (acc.length + 1) cap) (acc ++ [c]) := by
  unfold Row
  rw [List.length_append, List.map_append]
  exact h
theorem below_snoc {base : Nat} {w wr w1 : World} {v : Value} {acc : List UInt8} {o : Obj} (hb : Below base w wr) (hbs : base ≤ wr.heap.size) (hrow : Row base wr v acc) (hg : (wr.alloc o).grownBy w1 v.ownBlock) : Below base w w1 :=
  (hb.alloc hbs _).grown hg (by simp; omega) (fun k hk => (World.ownsRow.lt hrow k hk).1)
set_option maxHeartbeats 400000 in
theorem indexByte_any (s : ByteArray) (c : UInt8) (w : World) :
    Calls Tryz.prog 123 #[.string s, B c] w fun e w' => e = .returned (.int .i64 (Lib.indexByte s.data.toList c)) ∧ w = w' := by
  go_enter Tryz.func123, Tryz.ntmps123
  go_wp2
  rw [run_callFunc_extern Tryz.func139 (by kernel_rfl) (by kernel_rfl) (by kernel_rfl) (e := Extern.BytealgIndexByte.indexByte) (by kernel_rfl), Lib.run_indexByteString]
  simp only [Result.andThen]
  rw [Oper.upon_value]
  go_wp2
  go_ret
  exact ⟨by simp, rfl⟩
set_option maxHeartbeats 400000 in
set_option maxRecDepth 100000 in
theorem indexOne_any (s : ByteArray) (c : UInt8) (w : World) :
    Calls Tryz.prog 108 #[.string s, .string ⟨#[c]⟩] w fun e w' => e = .returned (.int .i64 (Lib.indexByte s.data.toList c)) ∧ w = w' := by
  go_enter Tryz.func108, Tryz.ntmps108
  go_wp2_with (go_at_call 123; refine (indexByte_any _ _ _).mono ?_; rintro e w' ⟨rfl, rfl⟩)
  · have h : ([c] == s.toList) = true := by assumption
    go_ret
    refine ⟨?_, rfl⟩
    have e : s.data.toList = [c] := by rw [← Lib.toList_data]; exact (beq_iff_eq.1 h).symm
    rw [e]
    simp [Lib.indexByte]
  · go_ret
    exact ⟨rfl, rfl⟩
def Cuts (w : World) (a b : ByteArray) (f : Bool) (e : Ending) (w' : World) : Prop := e = .returned (.tuple #[.string a, .string b, .bool f]) ∧ ∃ n, w' = w.drewN n
set_option maxHeartbeats 400000 in
theorem cut_miss (s : ByteArray) (c : UInt8) (w : World) (h : Lib.indexByte s.data.toList c = -1) :
    Calls Tryz.prog 101 #[.string s, .string ⟨#[c]⟩] w (Cuts w s ⟨#[]⟩ false) := by
  have H := Lib.hid h
  clear h
  go_enter Tryz.func101, Tryz.ntmps101
  go_wp2_with (go_at_call 108; refine (indexOne_any _ _ _).mono ?_; rintro e w' ⟨rfl, rfl⟩; rw [H.out])
  go_ret3
  exact ⟨rfl, 0, rfl⟩
set_option maxHeartbeats 400000 in
theorem cut_hit (s : ByteArray) (c : UInt8) (i : Nat) (w : World) (h : Lib.indexByte s.data.toList c = (i : Int)) (hi : i < s.size) (hs : s.size ≤ 1099511627776) :
    Calls Tryz.prog 101 #[.string s, .string ⟨#[c]⟩] w (Cuts w (s.extract 0 i) (s.extract (i + 1) s.size) true) := by
  have H := Lib.hid h
  clear h
  have c1 : (0 : Int) ≤ (i : Int) := by omega
  have c2 : (i : Int) ≤ (s.size : Int) := by omega
  have c3 : (0 : Int) ≤ (i : Int) + 1 := by omega
  have c4 : (i : Int) + 1 ≤ (s.size : Int) := by omega
  go_enter Tryz.func101, Tryz.ntmps101
  go_wp2_with (go_at_call 108; refine (indexOne_any _ _ _).mono ?_; rintro e w' ⟨rfl, rfl⟩; rw [H.out])
  go_region
  go_wp2
  go_ret3
  exact ⟨rfl, 1, rfl⟩
set_option maxHeartbeats 400000 in
theorem strCut_miss (s : ByteArray) (c : UInt8) (w : World) (h : Lib.indexByte s.data.toList c = -1) :
    Calls Tryz.prog 96 #[.string s, .string ⟨#[c]⟩] w (Cuts w s ⟨#[]⟩ false) := by
  have H := Lib.hid h
  clear h
  go_enter Tryz.func96, Tryz.ntmps96
  go_wp2_with (go_at_call 101; refine (cut_miss _ _ _ H.out).mono ?_; rintro e w' ⟨rfl, n, rfl⟩)
  go_ret3
  exact ⟨rfl, n, rfl⟩
set_option maxHeartbeats 400000 in
theorem strCut_hit (s : ByteArray) (c : UInt8) (i : Nat) (w : World) (h : Lib.indexByte s.data.toList c = (i : Int)) (hi : i < s.size) (hs : s.size ≤ 1099511627776) :
    Calls Tryz.prog 96 #[.string s, .string ⟨#[c]⟩] w (Cuts w (s.extract 0 i) (s.extract (i + 1) s.size) true) := by
  have H := Lib.hid h
  clear h
  go_enter Tryz.func96, Tryz.ntmps96
  go_wp2_with (go_at_call 101; refine (cut_hit _ _ i _ H.out hi hs).mono ?_; rintro e w' ⟨rfl, n, rfl⟩)
  go_ret3
  exact ⟨rfl, n, rfl⟩
theorem below_drewN {B : Nat} {a w : World} (h : Below B a w) (n : Nat) : Below B a (w.drewN n) := h.trans ⟨rfl, rfl, rfl, Nat.le_refl _, fun _ _ => rfl⟩
theorem S_toList (l : List UInt8) : (S l).data.toList = l := rfl
theorem S_eq (s : ByteArray) : S s.data.toList = s := rfl
/-- strings.Cut at one byte. -/
theorem strCut_any (l : List UInt8) (c : UInt8) (w : World) (hl : l.length ≤ 1099511627776) :
    Calls Tryz.prog 96 #[.string (S l), .string ⟨#[c]⟩] w (Cuts w (S (Pct.cutAt c l).1) (S (Pct.cutAt c l).2.1) (Pct.cutAt c l).2.2) := by
  have hsz : (S l).size = l.length := rfl
  rcases Pct.indexByte_cases l c with h | ⟨i, h⟩
  · rw [Pct.cutAt_miss l c h]
    exact strCut_miss (S l) c w h
  · obtain ⟨h1, h2⟩ := Pct.cutAt_found l c i h
    rw [h2]
    have e1 : S (l.take i) = (S l).extract 0 i := by
      have : ((S l).extract 0 i).data.toList = l.take i := by
        rw [ByteArray.data_extract, Array.toList_extract, List.extract_eq_take_drop]
        rfl
      rw [← this]
      rfl
    have e2 : S (l.drop (i + 1)) = (S l).extract (i + 1) (S l).size := by
      have := extract_toList (S l) (i + 1)
      rw [S_toList] at this
      rw [← this]
      rfl
    rw [e1, e2]
    exact strCut_hit (S l) c i w h (by rw [hsz]; omega) (by rw [hsz]; omega)
theorem strCut_to (l : List UInt8) (c : UInt8) (a b : List UInt8) (f : Bool) (w : World) (hl : l.length ≤ 1099511627776) (h : Pct.cutAt c l = (a, b, f)) :
    Calls Tryz.prog 96 #[.string (S l), .string ⟨#[c]⟩] w fun e w' => e = .returned (.tuple #[.string (S a), .string (S b), .bool f]) ∧ Below w.heap.size w w' :=
  (strCut_any l c w hl).mono fun e w' ⟨he, n, hw⟩ => ⟨by rw [he, h], by rw [hw]; exact below_drewN (Below.refl _ _) n⟩
theorem cutAt_len (c : UInt8) : ∀ l : List UInt8, (Pct.cutAt c l).1.length + (Pct.cutAt c l).2.1.length ≤ l.length
  | [] => by simp [Pct.cutAt]
  | x :: r => by
    by_cases hx : x = c
    · rw [hx, Pct.cutAt_hit]; simp
    · rw [Pct.cutAt_other c x r hx]
      have := cutAt_len c r
      simp
      omega
def strLen : Value → Nat
  | .string s => s.size
  | _ => 0
def boolN : Value → Nat
  | .bool true => 1
  | _ => 0
theorem own_below {w w' : World} {base : Nat} {e : TypeId} {size : Nat} {v : Value} {n : Nat} {xs : List Value} (h : w.ownsRow base e size v n xs) (hb : Below w.heap.size w w') : w'.ownsRow base e size v n xs := by
  refine ⟨h.1, ?_⟩
  rcases h.2 with h1 | ⟨g, cap, cur, hv, hbase, hg, hr⟩
  · exact .inl h1
  · refine .inr ⟨g, cap, cur, hv, hbase, ?_, hr⟩
    rw [hb.block g]
    · exact hg
    · rcases Nat.lt_or_ge g w.heap.size with hlt | hge
      · exact hlt
      · rw [Array.getElem?_eq_none hge] at hg; cases hg
theorem S_empty (a : List UInt8) : (S a).toList.isEmpty = a.isEmpty := by rw [Lib.toList_data]; rfl
theorem cutAt_len2 (c : UInt8) : ∀ l : List UInt8, (Pct.cutAt c l).1.length + (Pct.cutAt c l).2.1.length + (if (Pct.cutAt c l).2.2 = true then 1 else 0) = l.length
  | [] => by simp [Pct.cutAt]
  | x :: r => by
    by_cases hx : x = c
    · rw [hx, Pct.cutAt_hit]; simp
    · rw [Pct.cutAt_other c x r hx]
      have := cutAt_len2 c r
      simp only [List.length_cons]
      omega
theorem cut_measure {r a b : List UInt8} {f : Bool} {c : UInt8} (h : Pct.cutAt c r = (a, b, f)) : strLen (.string (S b)) + boolN (.bool f) < strLen (.string (S r)) + boolN (.bool true) := by
  have := cutAt_len2 c r
  rw [h] at this
  have e1 : strLen (.string (S b)) = b.length := rfl
  have e2 : strLen (.string (S r)) = r.length := rfl
  rw [e1, e2]
  cases f <;> simp [boolN] at this ⊢ <;> omega
theorem Tryz.sizeString : (Tryz.prog.info? 9).map (·.size) = some 1 := by kernel_rfl
theorem S_list (l : List UInt8) : (S l).toList = l := by rw [Lib.toList_data]; rfl
def AwakePost (w : World) (e : Ending) (w' : World) : Prop := e = .returned (.bool true) ∧ Below w.heap.size w w'
theorem S_append (a b : List UInt8) : S a ++ S b = S (a ++ b) := by
  unfold S
  rw [ByteArray.mk_append_mk]
theorem run_add_S (w : World) (a b : List UInt8) (h : a.length + b.length ≤ 1099511627776) : (Op.stringOp .add (S a) (S b)).run Tryz.prog w = .ok (.string (S (a ++ b))) w := by
  have ha : (S a).size = a.length := rfl
  have hb : (S b).size = b.length := rfl
  rw [run_string_add_sum w _ _ (by omega), S_append]
theorem extract_one (s : ByteArray) (k : Nat) (h : k < s.size) : s.extract k (k + 1) = S [s[k]] := by
  have h1 : (s.extract k (k + 1)).data.toList = [s[k]] := by
    rw [ByteArray.data_extract, Array.toList_extract, List.extract_eq_take_drop, List.drop_eq_getElem_cons (by simpa using h)]
    simp
    rfl
  rw [← S_eq (s.extract k (k + 1)), h1]
theorem below_of_drewN {w w' : World} (h : ∃ n, w' = w.drewN n) : Below w.heap.size w w' := by
  obtain ⟨n, rfl⟩ := h
  exact below_drewN (Below.refl _ _) n
theorem all_of_get {s : ByteArray} {p : UInt8 → Bool} (h : ∀ j (hj : j < s.size), p s[j] = true) : s.data.toList.all p = true :=
  List.all_eq_true.2 fun x hx => by
    obtain ⟨j, hj, rfl⟩ := List.getElem_of_mem hx
    exact h j (by simpa using hj)
theorem all_bad {s : ByteArray} {p : UInt8 → Bool} {k : Nat} (hk : k < s.size) (h : p s[k] = false) : s.data.toList.all p = false :=
  List.all_eq_false.2 ⟨s[k], List.mem_of_getElem? (Lib.data_getElem? s k hk), by rw [h]; simp⟩
theorem u8_ne {a : UInt8} {n : Int} (b : UInt8) (hb : (b.toNat : Int) = n) (h : a ≠ b) : ((a.toNat : Int) == n) = false :=
  beq_eq_false_iff_ne.2 fun e => h (Pct.u8_eq (by omega))
theorem Tryz.infoString : (Tryz.prog.info? 9).map (fun i => (i.zero, i.size, i.bytes)) = some (some (.string ⟨#[]⟩), 1, 16) := by kernel_rfl
def strsV (ps : List (List UInt8)) : List Value := ps.map fun p => .string (S p)
/-- The slice value v owns the texts ps. -/
def SRow (base : Nat) (w : World) (v : Value) (ps : List (List UInt8)) : Prop := w.ownsRow base 9 1 v ps.length (strsV ps)
theorem extract_piece (s : ByteArray) (f k : Nat) : s.extract f k = S ((s.data.toList.drop f).take (k - f)) := by
  have h1 : (s.extract f k).data.toList = (s.data.toList.drop f).take (k - f) := by
    rw [ByteArray.data_extract, Array.toList_extract, List.extract_eq_take_drop]
  rw [← S_eq (s.extract f k), h1]
theorem extract_rest (s : ByteArray) (f : Nat) : s.extract f s.size = S (s.data.toList.drop f) := by
  rw [← S_eq (s.extract f s.size), extract_toList]
theorem srow_snoc {base : Nat} {w1 : World} {ps : List (List UInt8)} {p : List UInt8} {gg cap : Nat}
    (h : w1.ownsRow base 9 1 (.slice (some ⟨gg, 0, none⟩) (ps.length + 1) cap) (ps.length + 1) (strsV ps ++ [.string (S p)])) : SRow base w1 (.slice (some ⟨gg, 0, none⟩) (ps.length + 1) cap) (ps ++ [p]) := by
  unfold SRow
  rw [List.length_append]
  have : strsV (ps ++ [p]) = strsV ps ++ [.string (S p)] := by simp [strsV]
  rw [this]
  exact h
theorem lt_of_blk {w1 : World} {b : Nat} {o : Obj} (hbk : w1.heap[b]? = some o) : b < w1.heap.size := by
  rcases Nat.lt_or_ge b w1.heap.size with h | h
  · exact h
  · rw [Array.getElem?_eq_none h] at hbk
    cases hbk
theorem SRow.open {base : Nat} {w : World} {v : Value} {ps : List (List UInt8)} (h : SRow base w v ps) (hn : ps ≠ []) :
    ∃ g cap, v = .slice (some ⟨g, 0, none⟩) ps.length cap ∧ g < w.heap.size ∧ ∀ k (hk : k < ps.length), w.cell? ⟨g, k, none⟩ = some (.string (S ps[k])) := by
  rcases h.2 with ⟨_, h0⟩ | ⟨g, cap, cur, hv, hbase, hg, hr⟩
  · exact absurd (List.length_eq_zero_iff.1 h0) hn
  · refine ⟨g, cap, hv, lt_of_blk hg, fun k hk => ?_⟩
    subst hv
    have := World.ownsRow.cells h (g := g) rfl k (.string (S ps[k])) (by simp [strsV, hk])
    rw [Addr.add_mid, Nat.zero_add] at this
    exact this
/-- The cells of a slice of texts. -/
def SCells (w : World) (B : Nat) (A : Option Addr) (l : List (List UInt8)) : Prop :=
  0 < l.length → ∃ b off, A = some ⟨b, off, none⟩ ∧ b < B ∧ ∀ k (h : k < l.length), w.cell? ⟨b, off + k, none⟩ = some (.string (S l[k]))
set_option maxHeartbeats 800000 in
theorem texts_same (A A' : Option Addr) (cap cap' : Nat) (l m : List (List UInt8)) (w : World) (hlm : l.length = m.length) (hl : SCells w w.heap.size A l) (hm : SCells w w.heap.size A' m) (hb : l.length ≤ 1099511627776) :
    Calls Tryz.prog 16 #[.slice A l.length cap, .slice A' m.length cap'] w fun e w' => e = .returned (.bool (decide (l = m))) ∧ ∃ n, w' = w.drewN n := by
  have HLM := Lib.hid hlm
  have hne : ((l.length : Int) != (m.length : Int)) = false := by simp; omega
  clear hlm
  go_enter Tryz.func16, Tryz.ntmps16
  go_wp2
  go_loopw [5] (fun i wr => ∃ k : Nat, k ≤ l.length ∧ i = .int .i64 k ∧ l.take k = m.take k ∧ ∃ n, wr = w.drewN n) (fun i _ => l.length - (intOf i).toNat)
  case atStart => exact ⟨0, Nat.zero_le _, rfl, rfl, 0, rfl⟩
  case round =>
    obtain ⟨k, hk, rfl, htk, n, rfl⟩ := hrel
    have HT := Lib.hid htk
    clear htk
    by_cases hlt : k < l.length
    · have hlt' : k < m.length := by have := HLM.out; omega
      obtain ⟨b, off, rfl, hbb, hc⟩ := hl (by omega)
      obtain ⟨b', off', rfl, hbb', hc'⟩ := hm (by omega)
      have c0 := hc k hlt
      have d0 := hc' k hlt'
      clear hc hc' hl hm
      have i0 : (0 : Int) ≤ (k : Int) := by omega
      have i1 : (k : Int) < (l.length : Int) := by omega
      have i2 : (k : Int) < (m.length : Int) := by omega
      by_cases hq : l[k] = m[k]
      · have HQ := Lib.hid hq
        have hs : (!((S l[k]).toList == (S m[k]).toList)) = false := by rw [hq]; simp
        clear hq
        go_wp2
        go_quiet (fail)
        go_wp2
        go_roundw
        case rel =>
          refine ⟨k + 1, by omega, by go_num, ?_, _, rfl⟩
          rw [List.take_succ_eq_append_getElem hlt, List.take_succ_eq_append_getElem hlt', HT.out, HQ.out]
        case measure => simp [intOf]; omega
      · have HQ := Lib.hid hq
        have hs : (!((S l[k]).toList == (S m[k]).toList)) = true := by rw [S_list, S_list]; simp [hq]
        clear hq
        go_wp2
        go_quiet (fail)
        go_wp2
        go_ret
        refine ⟨ret_bool ?_, _, World.drewN_drewN _ _ _⟩
        have hne' : l ≠ m := by
          intro h
          exact HQ.out (by subst h; rfl)
        rw [decide_eq_false hne']
    · have HE := Lib.hid (show l = m by
        have h1 := HT.out
        have h2 := HLM.out
        rwa [List.take_of_length_le (by omega), List.take_of_length_le (by omega)] at h1)
      go_wp2
      go_ret
      exact ⟨ret_bool (decide_eq_true HE.out).symm, _, rfl⟩
set_option maxHeartbeats 400000 in
theorem texts_other (A A' : Option Addr) (cap cap' : Nat) (l m : List (List UInt8)) (w : World) (hlm : l.length ≠ m.length) :
    Calls Tryz.prog 16 #[.slice A l.length cap, .slice A' m.length cap'] w fun e w' => e = .returned (.bool (decide (l = m))) ∧ ∃ n, w' = w.drewN n := by
  have hne : ((l.length : Int) != (m.length : Int)) = true := by simp; omega
  have HLM := Lib.hid hlm
  clear hlm
  go_enter Tryz.func16, Tryz.ntmps16
  go_wp2
  go_ret
  refine ⟨ret_bool ?_, 0, rfl⟩
  have hne' : l ≠ m := by
    intro h
    subst h
    exact HLM.out rfl
  simp [hne']
theorem texts_any (A A' : Option Addr) (cap cap' : Nat) (l m : List (List UInt8)) (w : World) (hl : SCells w w.heap.size A l) (hm : SCells w w.heap.size A' m) (hb : l.length ≤ 1099511627776) :
    Calls Tryz.prog 16 #[.slice A l.length cap, .slice A' m.length cap'] w fun e w' => e = .returned (.bool (decide (l = m))) ∧ ∃ n, w' = w.drewN n := by
  by_cases h : l.length = m.length
  · exact texts_same A A' cap cap' l m w h hl hm hb
  · exact texts_other A A' cap cap' l m w h
end Go.Proofs.YtfeaonbeklmfgaaGreatDoor
