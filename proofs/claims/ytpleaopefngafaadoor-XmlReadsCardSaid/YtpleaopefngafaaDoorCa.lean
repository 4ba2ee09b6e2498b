/- Texts, slices of bytes and of pairs, strings.Cut at one byte, the document's Pairs and Cut: what they answer; for texts of at most 2^30 bytes. (Of earlier texts, without package pct.) -/
import Derived.Test.YtpleaopefngafaaDoorRows
import Derived.Test.YtpleaopefngafaaDoorPure
import Derived.Test.YtpleaopefngafaaDoorForms
import Derived.WalkKit
import Derived.WalkSpells
import Derived.WalkLawsBesides
import Derived.Lib.Hide
import Derived.Deep.MidRow
import Derived.Deep.RegionHeld3
import Derived.Deep.AppendLies
import Derived.Laws.IdiomStrings
import Derived.Lib.BufferRead
import Derived.Laws.BitsLemmas
import Derived.Lib.Walk
import Derived.Lib.Strings
import Derived.Lib.Bytealg
import Derived.Lib.IndexLaws
import Derived.Deep.Draws
import Derived.Deep.QuietTactic
import Derived.BigQuiet
import Derived.RegionTactic
import Derived.Deep.LoopGhost
import Derived.Laws.StructEq
import Derived.Lib.IndexBytes
namespace Go.Proofs.YtpleaopefngafaaDoor
set_option maxRecDepth 8000
open Go.RowKit

abbrev B (c : UInt8) : Value := .int .u8 (c.toNat : Int)
theorem ret_bool {a b : Bool} (h : a = b) : Ending.returned (.bool a) = .returned (.bool b) := by rw [h]
theorem ne_int {a b : Nat} (h : ((a : Int) != (b : Int)) = true) : a ≠ b := by
  intro e; subst e; simp at h
theorem eq_int {a b : Nat} (h : ((a : Int) != (b : Int)) = false) : a = b := by
  have : (a : Int) = b := by simpa using h
  omega
theorem Tryd.infoByte : (Tryd.prog.info? 5).map (fun i => (i.zero, i.size, i.bytes)) = some (some (.int .u8 0), 1, 1) := by kernel_rfl
/-- The slice value v owns the bytes l, in a row of block 'base' or later. -/
def Row (base : Nat) (w : World) (v : Value) (l : List UInt8) : Prop := w.ownsRow base 5 1 v l.length (l.map B)
/-- 'string(b)' of a row of the call's own. -/
theorem row_string {base : Nat} {w : World} {v : Value} {l : List UInt8} (h : Row base w v l) : (convert 45 9 v).run Tryd.prog w = .ok (.string ⟨l.toArray⟩) w := by
  rcases h.2 with ⟨rfl, hn⟩ | ⟨g, cap, cur, rfl, _, hg, _, _, _, ht⟩
  · have : l = [] := List.length_eq_zero_iff.1 hn
    subst this
    exact Lib.run_convert_nil_bytes w 45 9 5 0 Tryd.underlying45 Tryd.underlying5 Tryd.underlying9
  · refine run_convert_bytes_back w 45 9 5 ⟨g, 0, none⟩ cap l Tryd.underlying45 Tryd.underlying5 Tryd.underlying9 (fun j hj => ?_)
    exact h.cells (g := g) rfl j _ (by simp [hj])
def S (l : List UInt8) : ByteArray := ⟨l.toArray⟩
def Told (w : World) (e' : Ending) (e : Ending) (w' : World) : Prop := e = e' ∧ Below w.heap.size w w'
theorem take_snoc (s : ByteArray) (k : Nat) (h : k < s.size) : s.data.toList.take (k + 1) = s.data.toList.take k ++ [s[k]] := by
  rw [List.take_succ_eq_append_getElem (by simpa using h)]; rfl

theorem extract_toList (s : ByteArray) (a : Nat) : (s.extract a s.size).data.toList = s.data.toList.drop a := by
  rw [ByteArray.data_extract, Array.toList_extract, List.extract_eq_take_drop, List.take_of_length_le]
  rw [List.length_drop]
  simp
theorem row_snoc {base : Nat} {w1 : World} {acc : List UInt8} {c : UInt8} {gg cap : Nat}
    (h : w1.ownsRow base 5 1 (.slice (some ⟨gg, 0, none⟩) (acc.length + 1) cap) (acc.length + 1) (acc.map B ++ [B c])) : Row base w1 (.slice (some ⟨gg, 0, none⟩) (acc.length + 1) cap) (acc ++ [c]) := by
  unfold Row
  rw [List.length_append, List.map_append]
  exact h
theorem below_snoc {base : Nat} {w wr w1 : World} {v : Value} {acc : List UInt8} {o : Obj} (hb : Below base w wr) (hbs : base ≤ wr.heap.size) (hrow : Row base wr v acc) (hg : (wr.alloc o).grownBy w1 v.ownBlock) : Below base w w1 :=
  (hb.alloc hbs _).grown hg (by simp; omega) (fun k hk => (World.ownsRow.lt hrow k hk).1)
set_option maxHeartbeats 400000 in
theorem indexByte_any (s : ByteArray) (c : UInt8) (w : World) :
    Calls Tryd.prog 48 #[.string s, B c] w fun e w' => e = .returned (.int .i64 (Lib.indexByte s.data.toList c)) ∧ w = w' := by
  go_enter Tryd.func48, Tryd.ntmps48
  go_wp2
  rw [run_callFunc_extern Tryd.func62 (by kernel_rfl) (by kernel_rfl) (by kernel_rfl) (e := Extern.BytealgIndexByte.indexByte) (by kernel_rfl), Lib.run_indexByteString]
  simp only [Result.andThen]
  rw [Oper.upon_value]
  go_wp2
  go_ret
  exact ⟨by simp, rfl⟩
set_option maxHeartbeats 400000 in
set_option maxRecDepth 100000 in
theorem indexOne_any (s : ByteArray) (c : UInt8) (w : World) :
    Calls Tryd.prog 61 #[.string s, .string ⟨#[c]⟩] w fun e w' => e = .returned (.int .i64 (Lib.indexByte s.data.toList c)) ∧ w = w' := by
  go_enter Tryd.func61, Tryd.ntmps61
  go_wp2_with (go_at_call 48; refine (indexByte_any _ _ _).mono ?_; rintro e w' ⟨rfl, rfl⟩)
  · have h : ([c] == s.toList) = true := by assumption
    go_ret
    refine ⟨?_, rfl⟩
    have e : s.data.toList = [c] := by rw [← Lib.toList_data]; exact (beq_iff_eq.1 h).symm
    rw [e]
    simp [Lib.indexByte]
  · go_ret
    exact ⟨rfl, rfl⟩
def Cuts (w : World) (a b : ByteArray) (f : Bool) (e : Ending) (w' : World) : Prop := e = .returned (.tuple #[.string a, .string b, .bool f]) ∧ ∃ n, w' = w.drewN n
set_option maxHeartbeats 400000 in
theorem cut_miss (s : ByteArray) (c : UInt8) (w : World) (h : Lib.indexByte s.data.toList c = -1) :
    Calls Tryd.prog 47 #[.string s, .string ⟨#[c]⟩] w (Cuts w s ⟨#[]⟩ false) := by
  have H := Lib.hid h
  clear h
  go_enter Tryd.func47, Tryd.ntmps47
  go_wp2_with (go_at_call 61; refine (indexOne_any _ _ _).mono ?_; rintro e w' ⟨rfl, rfl⟩; rw [H.out])
  go_ret3
  exact ⟨rfl, 0, rfl⟩
set_option maxHeartbeats 400000 in
theorem cut_hit (s : ByteArray) (c : UInt8) (i : Nat) (w : World) (h : Lib.indexByte s.data.toList c = (i : Int)) (hi : i < s.size) (hs : s.size ≤ 1099511627776) :
    Calls Tryd.prog 47 #[.string s, .string ⟨#[c]⟩] w (Cuts w (s.extract 0 i) (s.extract (i + 1) s.size) true) := by
  have H := Lib.hid h
  clear h
  have c1 : (0 : Int) ≤ (i : Int) := by omega
  have c2 : (i : Int) ≤ (s.size : Int) := by omega
  have c3 : (0 : Int) ≤ (i : Int) + 1 := by omega
  have c4 : (i : Int) + 1 ≤ (s.size : Int) := by omega
  go_enter Tryd.func47, Tryd.ntmps47
  go_wp2_with (go_at_call 61; refine (indexOne_any _ _ _).mono ?_; rintro e w' ⟨rfl, rfl⟩; rw [H.out])
  go_region
  go_wp2
  go_ret3
  exact ⟨rfl, 1, rfl⟩
set_option maxHeartbeats 400000 in
theorem strCut_miss (s : ByteArray) (c : UInt8) (w : World) (h : Lib.indexByte s.data.toList c = -1) :
    Calls Tryd.prog 34 #[.string s, .string ⟨#[c]⟩] w (Cuts w s ⟨#[]⟩ false) := by
  have H := Lib.hid h
  clear h
  go_enter Tryd.func34, Tryd.ntmps34
  go_wp2_with (go_at_call 47; refine (cut_miss _ _ _ H.out).mono ?_; rintro e w' ⟨rfl, n, rfl⟩)
  go_ret3
  exact ⟨rfl, n, rfl⟩
set_option maxHeartbeats 400000 in
theorem strCut_hit (s : ByteArray) (c : UInt8) (i : Nat) (w : World) (h : Lib.indexByte s.data.toList c = (i : Int)) (hi : i < s.size) (hs : s.size ≤ 1099511627776) :
    Calls Tryd.prog 34 #[.string s, .string ⟨#[c]⟩] w (Cuts w (s.extract 0 i) (s.extract (i + 1) s.size) true) := by
  have H := Lib.hid h
  clear h
  go_enter Tryd.func34, Tryd.ntmps34
  go_wp2_with (go_at_call 47; refine (cut_hit _ _ i _ H.out hi hs).mono ?_; rintro e w' ⟨rfl, n, rfl⟩)
  go_ret3
  exact ⟨rfl, n, rfl⟩
theorem below_drewN {B : Nat} {a w : World} (h : Below B a w) (n : Nat) : Below B a (w.drewN n) := h.trans ⟨rfl, rfl, rfl, Nat.le_refl _, fun _ _ => rfl⟩
theorem S_toList (l : List UInt8) : (S l).data.toList = l := rfl
theorem S_eq (s : ByteArray) : S s.data.toList = s := rfl
/-- strings.Cut at one byte. -/
theorem strCut_any (l : List UInt8) (c : UInt8) (w : World) (hl : l.length ≤ 1099511627776) :
    Calls Tryd.prog 34 #[.string (S l), .string ⟨#[c]⟩] w (Cuts w (S (Pct.cutAt c l).1) (S (Pct.cutAt c l).2.1) (Pct.cutAt c l).2.2) := by
  have hsz : (S l).size = l.length := rfl
  rcases Pct.indexByte_cases l c with h | ⟨i, h⟩
  · rw [Pct.cutAt_miss l c h]
    exact strCut_miss (S l) c w h
  · obtain ⟨h1, h2⟩ := Pct.cutAt_found l c i h
    rw [h2]
    have e1 : S (l.take i) = (S l).extract 0 i := by
      have : ((S l).extract 0 i).data.toList = l.take i := by
        rw [ByteArray.data_extract, Array.toList_extract, List.extract_eq_take_drop]
        rfl
      rw [← this]
      rfl
    have e2 : S (l.drop (i + 1)) = (S l).extract (i + 1) (S l).size := by
      have := extract_toList (S l) (i + 1)
      rw [S_toList] at this
      rw [← this]
      rfl
    rw [e1, e2]
    exact strCut_hit (S l) c i w h (by rw [hsz]; omega) (by rw [hsz]; omega)
theorem strCut_to (l : List UInt8) (c : UInt8) (a b : List UInt8) (f : Bool) (w : World) (hl : l.length ≤ 1099511627776) (h : Pct.cutAt c l = (a, b, f)) :
    Calls Tryd.prog 34 #[.string (S l), .string ⟨#[c]⟩] w fun e w' => e = .returned (.tuple #[.string (S a), .string (S b), .bool f]) ∧ Below w.heap.size w w' :=
  (strCut_any l c w hl).mono fun e w' ⟨he, n, hw⟩ => ⟨by rw [he, h], by rw [hw]; exact below_drewN (Below.refl _ _) n⟩
theorem cutAt_len (c : UInt8) : ∀ l : List UInt8, (Pct.cutAt c l).1.length + (Pct.cutAt c l).2.1.length ≤ l.length
  | [] => by simp [Pct.cutAt]
  | x :: r => by
    by_cases hx : x = c
    · rw [hx, Pct.cutAt_hit]; simp
    · rw [Pct.cutAt_other c x r hx]
      have := cutAt_len c r
      simp
      omega
theorem Tryd.infoPair : (Tryd.prog.info? 38).map (fun i => (i.zero, i.size, i.bytes)) = some (some (.agg #[.string ⟨#[]⟩, .string ⟨#[]⟩]), 2, 32) := by kernel_rfl
def cells2 (l : List Pct.PairL) : List Value := l.flatMap fun q => [.string (S q.1), .string (S q.2)]
/-- The slice value v owns the pairs l. -/
def PRow (base : Nat) (w : World) (v : Value) (l : List Pct.PairL) : Prop := w.ownsRow base 38 2 v l.length (cells2 l)
def strLen : Value → Nat
  | .string s => s.size
  | _ => 0
def boolN : Value → Nat
  | .bool true => 1
  | _ => 0
theorem own_below {w w' : World} {base : Nat} {e : TypeId} {size : Nat} {v : Value} {n : Nat} {xs : List Value} (h : w.ownsRow base e size v n xs) (hb : Below w.heap.size w w') : w'.ownsRow base e size v n xs := by
  refine ⟨h.1, ?_⟩
  rcases h.2 with h1 | ⟨g, cap, cur, hv, hbase, hg, hr⟩
  · exact .inl h1
  · refine .inr ⟨g, cap, cur, hv, hbase, ?_, hr⟩
    rw [hb.block g]
    · exact hg
    · rcases Nat.lt_or_ge g w.heap.size with hlt | hge
      · exact hlt
      · rw [Array.getElem?_eq_none hge] at hg; cases hg
theorem PRow.form {base : Nat} {w : World} {v : Value} {l : List Pct.PairL} (h : PRow base w v l) : ∃ A cap, v = .slice A l.length cap := by
  rcases h.2 with ⟨rfl, hn⟩ | ⟨g, cap, _, hv, _⟩
  · exact ⟨none, 0, by rw [hn]⟩
  · exact ⟨_, cap, hv⟩
theorem S_empty (a : List UInt8) : (S a).toList.isEmpty = a.isEmpty := by rw [Lib.toList_data]; rfl
theorem cutAt_len2 (c : UInt8) : ∀ l : List UInt8, (Pct.cutAt c l).1.length + (Pct.cutAt c l).2.1.length + (if (Pct.cutAt c l).2.2 = true then 1 else 0) = l.length
  | [] => by simp [Pct.cutAt]
  | x :: r => by
    by_cases hx : x = c
    · rw [hx, Pct.cutAt_hit]; simp
    · rw [Pct.cutAt_other c x r hx]
      have := cutAt_len2 c r
      simp only [List.length_cons]
      omega
theorem cut_measure {r a b : List UInt8} {f : Bool} {c : UInt8} (h : Pct.cutAt c r = (a, b, f)) : strLen (.string (S b)) + boolN (.bool f) < strLen (.string (S r)) + boolN (.bool true) := by
  have := cutAt_len2 c r
  rw [h] at this
  have e1 : strLen (.string (S b)) = b.length := rfl
  have e2 : strLen (.string (S r)) = r.length := rfl
  rw [e1, e2]
  cases f <;> simp [boolN] at this ⊢ <;> omega
theorem cells2_snoc (l : List Pct.PairL) (q : Pct.PairL) : cells2 (l ++ [q]) = cells2 l ++ [.string (S q.1), .string (S q.2)] := by simp [cells2]
theorem prow_snoc {base : Nat} {w1 : World} {acc : List Pct.PairL} {q : Pct.PairL} {gg cap : Nat}
    (h : w1.ownsRow base 38 2 (.slice (some ⟨gg, 0, none⟩) (acc.length + 1) cap) (acc.length + 1) (cells2 acc ++ [.string (S q.1), .string (S q.2)])) : PRow base w1 (.slice (some ⟨gg, 0, none⟩) (acc ++ [q]).length cap) (acc ++ [q]) := by
  unfold PRow
  rw [List.length_append, cells2_snoc]
  exact h
/-- The address A holds the cells of the pairs l, in a block below B. -/
def PCells (w : World) (B : Nat) (A : Option Addr) (l : List Pct.PairL) : Prop :=
  0 < l.length → ∃ b off, A = some ⟨b, off, none⟩ ∧ b < B ∧ ∀ k (h : k < l.length), w.cell? ⟨b, off + k * 2, none⟩ = some (.string (S l[k].1)) ∧ w.cell? ⟨b, off + k * 2 + 1, none⟩ = some (.string (S l[k].2))
theorem Tryd.heldPair : Tryd.prog.stoodInHeld 38 = false := by kernel_rfl
theorem Tryd.guardPair : Tryd.prog.eqGuardType Tryd.prog.depth 38 = false := by kernel_rfl
theorem Tryd.fieldsPair : Tryd.prog.underlying 38 = some (.struct (Tryd.prog.fieldsOf 38)) := by kernel_rfl
theorem Tryd.sizeString : (Tryd.prog.info? 9).map (·.size) = some 1 := by kernel_rfl
theorem run_neq_pair (w : World) (x y x' y' : ByteArray) : (binOp .neq 38 (.agg #[.string x, .string y]) (.agg #[.string x', .string y'])).run Tryd.prog w = .ok (.bool (!((x.toList == x'.toList) && (y.toList == y'.toList)))) w := by
  rw [run_neq_struct, run_equalIn_struct w 9999 _ _ _ Tryd.fieldsPair Tryd.heldPair]
  simp [Program.fieldsOf, Tryd.underlying38, Op.eqFields, go_sem]
  by_cases h1 : x.toList = x'.toList <;> by_cases h2 : y.toList = y'.toList <;> simp [h1, h2]
theorem run_neq_eq (w : World) (q q' : Pct.PairL) (h : q = q') : (binOp .neq 38 (.agg #[.string (S q.1), .string (S q.2)]) (.agg #[.string (S q'.1), .string (S q'.2)])).run Tryd.prog w = .ok (.bool false) w := by
  rw [run_neq_pair, h]
  simp
theorem run_neq_ne (w : World) (q q' : Pct.PairL) (h : q ≠ q') : (binOp .neq 38 (.agg #[.string (S q.1), .string (S q.2)]) (.agg #[.string (S q'.1), .string (S q'.2)])).run Tryd.prog w = .ok (.bool true) w := by
  rw [run_neq_pair]
  have hs : ∀ l : List UInt8, (S l).toList = l := fun l => by rw [Lib.toList_data]; rfl
  rw [hs, hs, hs, hs]
  have : ¬ (q.1 = q'.1 ∧ q.2 = q'.2) := fun ⟨h1, h2⟩ => h (Prod.ext h1 h2)
  by_cases h1 : q.1 = q'.1
  · have h2 : ¬ q.2 = q'.2 := fun h2 => this ⟨h1, h2⟩
    simp [h1, h2]
  · simp [h1]
set_option maxHeartbeats 400000 in
theorem pairs_same (A A' : Option Addr) (cap cap' : Nat) (l m : List Pct.PairL) (w : World) (hlm : l.length = m.length) (hl : PCells w w.heap.size A l) (hm : PCells w w.heap.size A' m) (hb : l.length ≤ 1099511627776) :
    Calls Tryd.prog 16 #[.slice A l.length cap, .slice A' m.length cap'] w fun e w' => e = .returned (.bool (decide (l = m))) ∧ ∃ n, w' = w.drewN n := by
  have HLM := Lib.hid hlm
  have hne : ((l.length : Int) != (m.length : Int)) = false := by simp; omega
  clear hlm
  go_enter Tryd.func16, Tryd.ntmps16
  go_wp2
  go_loopw [5] (fun i wr => ∃ k : Nat, k ≤ l.length ∧ i = .int .i64 k ∧ l.take k = m.take k ∧ ∃ n, wr = w.drewN n) (fun i _ => l.length - (intOf i).toNat)
  case atStart => exact ⟨0, Nat.zero_le _, rfl, rfl, 0, rfl⟩
  case round =>
    obtain ⟨k, hk, rfl, htk, n, rfl⟩ := hrel
    have HT := Lib.hid htk
    clear htk
    by_cases hlt : k < l.length
    · have hlt' : k < m.length := by have := HLM.out; omega
      obtain ⟨b, off, rfl, hbb, hc⟩ := hl (by omega)
      obtain ⟨b', off', rfl, hbb', hc'⟩ := hm (by omega)
      obtain ⟨c0, c1⟩ := hc k hlt
      obtain ⟨d0, d1⟩ := hc' k hlt'
      clear hc hc' hl hm
      have i0 : (0 : Int) ≤ (k : Int) := by omega
      have i1 : (k : Int) < (l.length : Int) := by omega
      have i2 : (k : Int) < (m.length : Int) := by omega
      have hgd := fun w' : World => run_eqGuard_agg (P := Tryd.prog) w' .neq 38 (.tmp 20) (.tmp 24) #[.string (S l[k].1), .string (S l[k].2)] #[.string (S m[k].1), .string (S m[k].2)] Tryd.guardPair
      by_cases hq : l[k] = m[k]
      · have hneq := fun w' : World => run_neq_eq w' l[k] m[k] hq
        have HQ := Lib.hid hq
        clear hq
        go_wp2
        go_quiet (fail)
        go_wp2
        go_roundw
        case rel =>
          refine ⟨k + 1, by omega, by go_num, ?_, _, rfl⟩
          rw [List.take_succ_eq_append_getElem hlt, List.take_succ_eq_append_getElem hlt', HT.out, HQ.out]
        case measure => simp [intOf]; omega
      · have hneq := fun w' : World => run_neq_ne w' l[k] m[k] hq
        have HQ := Lib.hid hq
        clear hq
        go_wp2
        go_quiet (fail)
        go_wp2
        go_ret
        refine ⟨ret_bool ?_, _, World.drewN_drewN _ _ _⟩
        have hne' : l ≠ m := by
          intro h
          subst h
          exact HQ.out rfl
        simp [hne']
    · have hkl : l = m := by
        have := HT.out
        rwa [List.take_of_length_le (by omega), List.take_of_length_le (by have := HLM.out; omega)] at this
      have HK := Lib.hid hkl
      clear hkl
      go_wp2
      go_ret
      exact ⟨ret_bool (by rw [HK.out]; simp), n, rfl⟩
set_option maxHeartbeats 400000 in
theorem pairs_other (A A' : Option Addr) (cap cap' : Nat) (l m : List Pct.PairL) (w : World) (hlm : l.length ≠ m.length) :
    Calls Tryd.prog 16 #[.slice A l.length cap, .slice A' m.length cap'] w fun e w' => e = .returned (.bool (decide (l = m))) ∧ ∃ n, w' = w.drewN n := by
  have hne : ((l.length : Int) != (m.length : Int)) = true := by simp; omega
  have HLM := Lib.hid hlm
  clear hlm
  go_enter Tryd.func16, Tryd.ntmps16
  go_wp2
  go_ret
  refine ⟨ret_bool ?_, 0, rfl⟩
  have hne' : l ≠ m := by
    intro h
    subst h
    exact HLM.out rfl
  simp [hne']
/-- The slice value v reads as the pairs l, in a block below B. -/
def PReads (w : World) (B : Nat) (v : Value) (l : List Pct.PairL) : Prop := ∃ A cap, v = .slice A l.length cap ∧ PCells w B A l
theorem pairs_any (v v' : Value) (l m : List Pct.PairL) (w : World) (hl : PReads w w.heap.size v l) (hm : PReads w w.heap.size v' m) (hb : l.length ≤ 1099511627776) :
    Calls Tryd.prog 16 #[v, v'] w fun e w' => e = .returned (.bool (decide (l = m))) ∧ ∃ n, w' = w.drewN n := by
  obtain ⟨A, cap, rfl, h1⟩ := hl
  obtain ⟨A', cap', rfl, h2⟩ := hm
  by_cases h : l.length = m.length
  · exact pairs_same A A' cap cap' l m w h h1 h2 hb
  · exact pairs_other A A' cap cap' l m w h
theorem PReads.below {w w' : World} {B : Nat} {v : Value} {l : List Pct.PairL} (h : PReads w B v l) (hb : Below B w w') : PReads w' B v l := by
  obtain ⟨A, cap, rfl, h⟩ := h
  refine ⟨A, cap, rfl, fun hn => ?_⟩
  obtain ⟨b, off, rfl, hlt, hc⟩ := h hn
  refine ⟨b, off, rfl, hlt, fun k hk => ?_⟩
  rw [hb.cell (p := ⟨b, off + k * 2, none⟩) hlt, hb.cell (p := ⟨b, off + k * 2 + 1, none⟩) hlt]
  exact hc k hk
theorem PReads.more {w : World} {B B' : Nat} {v : Value} {l : List Pct.PairL} (h : PReads w B v l) (hB : B ≤ B') : PReads w B' v l := by
  obtain ⟨A, cap, rfl, h⟩ := h
  refine ⟨A, cap, rfl, fun hn => ?_⟩
  obtain ⟨b, off, rfl, hlt, hc⟩ := h hn
  exact ⟨b, off, rfl, by omega, hc⟩
theorem cells2_at : ∀ (l : List Pct.PairL) (k : Nat) (hk : k < l.length), (cells2 l)[k * 2]? = some (.string (S l[k].1)) ∧ (cells2 l)[k * 2 + 1]? = some (.string (S l[k].2))
  | [], k, hk => absurd hk (by simp)
  | q :: r, 0, _ => ⟨rfl, rfl⟩
  | q :: r, k + 1, hk => by
    have ih := cells2_at r k (by simpa using hk)
    have e : cells2 (q :: r) = .string (S q.1) :: .string (S q.2) :: cells2 r := rfl
    rw [e, show (k + 1) * 2 = k * 2 + 1 + 1 by omega, show k * 2 + 1 + 1 + 1 = (k * 2 + 1) + 1 + 1 by omega]
    simpa using ih
/-- A row of the call's own reads. -/
theorem PRow.reads {base : Nat} {w : World} {v : Value} {l : List Pct.PairL} (h : PRow base w v l) : PReads w w.heap.size v l := by
  rcases h.2 with ⟨rfl, hn⟩ | ⟨g, cap, cur, rfl, hbase, hg, hr⟩
  · exact ⟨none, 0, by rw [hn], fun h0 => absurd h0 (by omega)⟩
  · refine ⟨_, cap, rfl, fun _ => ⟨g, 0, rfl, ?_, fun k hk => ?_⟩⟩
    · rcases Nat.lt_or_ge g w.heap.size with hlt | hge
      · exact hlt
      · rw [Array.getElem?_eq_none hge] at hg; cases hg
    · have hc := World.ownsRow.cells h (g := g) rfl
      have h2 := cells2_at l k hk
      have a1 := hc _ _ h2.1
      have a2 := hc _ _ h2.2
      rw [Addr.add_mid] at a1 a2
      exact ⟨a1, by rw [← Nat.add_assoc] at a2; exact a2⟩
theorem S_list (l : List UInt8) : (S l).toList = l := by rw [Lib.toList_data]; rfl
def AwakePost (w : World) (e : Ending) (w' : World) : Prop := e = .returned (.bool true) ∧ Below w.heap.size w w'
theorem S_append (a b : List UInt8) : S a ++ S b = S (a ++ b) := by
  unfold S
  rw [ByteArray.mk_append_mk]
theorem run_add_S (w : World) (a b : List UInt8) (h : a.length + b.length ≤ 1099511627776) : (Op.stringOp .add (S a) (S b)).run Tryd.prog w = .ok (.string (S (a ++ b))) w := by
  have ha : (S a).size = a.length := rfl
  have hb : (S b).size = b.length := rfl
  rw [run_string_add_sum w _ _ (by omega), S_append]
theorem extract_one (s : ByteArray) (k : Nat) (h : k < s.size) : s.extract k (k + 1) = S [s[k]] := by
  have h1 : (s.extract k (k + 1)).data.toList = [s[k]] := by
    rw [ByteArray.data_extract, Array.toList_extract, List.extract_eq_take_drop, List.drop_eq_getElem_cons (by simpa using h)]
    simp
    rfl
  rw [← S_eq (s.extract k (k + 1)), h1]
theorem below_of_drewN {w w' : World} (h : ∃ n, w' = w.drewN n) : Below w.heap.size w w' := by
  obtain ⟨n, rfl⟩ := h
  exact below_drewN (Below.refl _ _) n
theorem all_of_get {s : ByteArray} {p : UInt8 → Bool} (h : ∀ j (hj : j < s.size), p s[j] = true) : s.data.toList.all p = true :=
  List.all_eq_true.2 fun x hx => by
    obtain ⟨j, hj, rfl⟩ := List.getElem_of_mem hx
    exact h j (by simpa using hj)
theorem all_bad {s : ByteArray} {p : UInt8 → Bool} {k : Nat} (hk : k < s.size) (h : p s[k] = false) : s.data.toList.all p = false :=
  List.all_eq_false.2 ⟨s[k], List.mem_of_getElem? (Lib.data_getElem? s k hk), by rw [h]; simp⟩
theorem u8_ne {a : UInt8} {n : Int} (b : UInt8) (hb : (b.toNat : Int) = n) (h : a ≠ b) : ((a.toNat : Int) == n) = false :=
  beq_eq_false_iff_ne.2 fun e => h (Pct.u8_eq (by omega))
end Go.Proofs.YtpleaopefngafaaDoor
