/- A table of values in memory: how changes are made in it. No condition. A copy of a table. No condition. -/
import Derived.Test.YtfceljbmdcbciaaDoorMg07
import Derived.Maps.OwnSet
import Derived.StringKeys
import Derived.Shelf.SlMaps.Clone
namespace Go.Proofs.YtfceljbmdcbciaaDoor
set_option maxRecDepth 8000
open Go.RowKit

namespace Kv
/-- How a value in a table reads. -/
def vR (v : Value) : Option (DataW Unit × List MemPlace) :=
  match v with
  | .agg xs => (match xs.toList with | [.string s] => some (.agg [.lit (.string s.data.toList)], []) | _ => none)
  | _ => none
theorem vR_inv {v : Value} {z : DataW Unit × List MemPlace} (h : vR v = some z) : ∃ s : ByteArray, v = .agg #[.string s] ∧ z = (.agg [.lit (.string s.data.toList)], []) := by
  cases v with
  | agg xs =>
    obtain ⟨l⟩ := xs
    match l, h with
    | [.string s], h => exact ⟨s, rfl, (Option.some.inj h).symm⟩
  | _ => simp [vR] at h
def valD (b : Bytes) : DataW Unit := .agg [.lit (.string b)]
/-- One change of a table's datum. -/
def ch (D : DataW Unit) (c : C) : DataW Unit := if c.g then D.del (.string c.k) else D.put (.string c.k) (valD c.v)
def chs (D : DataW Unit) (l : List C) : DataW Unit := l.foldl ch D
theorem chs_take {l : List C} {k : Nat} (hk : k < l.length) (D : DataW Unit) : chs D (l.take (k + 1)) = ch (chs D (l.take k)) l[k] := by
  unfold chs
  rw [List.take_succ_eq_append_getElem hk, List.foldl_append]
  rfl
end Kv
/-- Block b is a table of at most n values that reads as D. -/
def TB (w : World) (b n : Nat) (D : DataW Unit) : Prop := w.ownsMap Tryd.prog 9 Kv.vR b n D
theorem keyS {l : List UInt8} (h : l.length ≤ 1073741824) : keyOf Tryd.prog 9 (.string (S l)) = some (.string l) :=
  WideMaps.keyOf_string_mk Tryd.underlying9 (s := S l) (by show l.length ≤ maxLen; unfold maxLen; omega)
/-- All blocks but one are as they were. -/
structure KB (w w' : World) (P : Nat) : Prop where
  os : w'.os = w.os
  tape : w'.tape = w.tape
  output : w'.output = w.output
  size : w.heap.size ≤ w'.heap.size
  block : ∀ i, i < w.heap.size → i ≠ P → w'.heap[i]? = w.heap[i]?
theorem KB.refl (w : World) (P : Nat) : KB w w P := ⟨rfl, rfl, rfl, Nat.le_refl _, fun _ _ _ => rfl⟩
theorem KB.trans {w w' w'' : World} {P : Nat} (h : KB w w' P) (k : KB w' w'' P) : KB w w'' P :=
  ⟨k.os.trans h.os, k.tape.trans h.tape, k.output.trans h.output, Nat.le_trans h.size k.size, fun i hi hne => (k.block i (Nat.lt_of_lt_of_le hi h.size) hne).trans (h.block i hi hne)⟩
theorem KB.cell {w w' : World} {P : Nat} (h : KB w w' P) {b o : Nat} (hb : b < w.heap.size) (hP : b ≠ P) : w'.cell? ⟨b, o, none⟩ = w.cell? ⟨b, o, none⟩ := by
  unfold World.cell?
  rw [h.block b hb hP]
theorem KB.of_below {w w' : World} {P : Nat} (h : Below w.heap.size w w') : KB w w' P := ⟨h.os, h.tape, h.output, h.size, fun i hi _ => h.block i hi⟩
theorem KB.below {w0 w w' : World} {B P : Nat} (hb : Below B w0 w) (h : KB w w' P) (hP : B ≤ P) (hB : B ≤ w.heap.size) : Below B w0 w' :=
  hb.trans ⟨h.os, h.tape, h.output, h.size, fun k hk => h.block k (by omega) (by omega)⟩
theorem KB.of_turned {w w' : World} {b : Nat} (h : w.mapTurned w' b) : KB w w' b := by
  have g := h.grown
  exact ⟨g.os, g.tape, g.output, g.size, fun i hi hne => g.block i hi (fun e => hne (by injection e))⟩
theorem TB.below {w w' : World} {b n : Nat} {D : DataW Unit} (h : TB w b n D) (hb : Below w.heap.size w w') : TB w' b n D := by
  obtain ⟨es, clock, h1, h2⟩ := h
  exact ⟨es, clock, (hb.block b (World.ownsMap.lt (P := Tryd.prog) (k := 9) (R := Kv.vR) ⟨es, clock, h1, h2⟩)).trans h1, h2⟩
theorem Tryd.keyed : Maps.Keyed Tryd.prog 9 := Maps.string_keyed Tryd.underlying9
theorem zeroVal (w : World) : (zeroValue 116).run Tryd.prog w = .ok (.agg #[.string ⟨#[]⟩]) w := by kernel_rfl
/-- 'v, ok := t[key]'. -/
theorem wpList_lookup_text (w : World) {ops : Array Oper} {rest : List Oper} {o : Oper} {a : Act} {Q : Exit → Act → World → Prop} (hg : o.guard = none) (m x : Operand) (hop : o.op = Op.lookup 109 m x true)
    (b n : Nat) (D : DataW Unit) (hm : a.eval m = .map (some b)) (hown : TB w b n D) (key : Value) (kl : Lit) (hx : a.eval x = key) (hkey : keyOf Tryd.prog 9 key = some kl)
    (hK : ∀ v : List UInt8, D.atKey kl (Kv.valD []) = Kv.valD v → wpList Tryd.prog ops Q rest (a.put o.dst (.tuple #[.agg #[.string (S v)], .bool (Maps.has D kl)])) w) :
    wpList Tryd.prog ops Q (o :: rest) a w :=
  wpList_lookup_own_ok w hg m x 109 hop 9 116 Tryd.keyed Tryd.underlying109 Kv.vR (zeroVal w) (Kv.valD []) [] rfl b n D hm hown key kl hx hkey (fun v ps hv => by
    obtain ⟨s, rfl, hs⟩ := Kv.vR_inv hv
    have := hK s.data.toList (congrArg Prod.fst hs)
    exact this)

set_option maxHeartbeats 1600000 in
theorem kvChange_any (w : World) (b n m c : Nat) (D : DataW Unit) (A : Option Addr) (l : List Kv.C) (hm : l.length = m) (hT : TB w b n D) (hc : ChIn w w.heap.size A l) (hnb : ∀ ad, A = some ad → ad.block ≠ b) (hr : ∀ x ∈ l, Kv.right x = true) (hn : n + m ≤ 1073741824) :
    Calls Tryd.prog 65 #[.map (some b), .slice A m c] w fun e w' => e = .returned (.tuple #[]) ∧ TB w' b (n + m) (Kv.chs D l) ∧ KB w w' b := by
  have HM := Lib.hid hm
  have HC := Lib.hid hc
  have HNB := Lib.hid hnb
  have HR := Lib.hid hr
  clear hm hc hnb hr
  go_enter Tryd.func65, Tryd.ntmps65
  go_upto_region 1 with fail
  go_loopw [8] (fun iv wr => ∃ k : Nat, k ≤ m ∧ iv = .int .i64 k ∧ TB wr b (n + k) (Kv.chs D (l.take k)) ∧ KB w wr b) (fun iv _ => m - (intOf iv).toNat)
  case atStart => exact ⟨0, Nat.zero_le _, rfl, hT, KB.refl _ _⟩
  case round =>
    clear hT
    obtain ⟨k, hk, rfl, hT, hK⟩ := hrel
    by_cases hlt : k < m
    · have hkl : k < l.length := by have := HM.out; omega
      obtain ⟨b1, off, rfl, hbl, hcc⟩ := HC.out (by omega)
      obtain ⟨c0, c1, c2⟩ := hcc k hkl
      have hb1 : b1 ≠ b := HNB.out _ rfl
      have d0 := (hK.cell (o := off + k * 3) hbl hb1).trans c0
      have d1 := (hK.cell (o := off + k * 3 + 1) hbl hb1).trans c1
      have d2 := (hK.cell (o := off + k * 3 + 2) hbl hb1).trans c2
      have hri := Kv.right_of (HR.out _ (List.getElem_mem hkl))
      have HTK := Lib.hid (Kv.chs_take hkl D)
      generalize l[k] = x at d0 d1 d2 hri HTK
      have hkI : (k : Int) < (m : Int) := by omega
      have hk0 : (0 : Int) ≤ (k : Int) := by omega
      have hkey := keyS (l := x.k) (by omega)
      have hbx : Below wr.heap.size wr (wr.alloc (.cells #[.string (S x.k), .string (S x.v), .bool x.g] 105)) := (Below.refl _ _).alloc (Nat.le_refl _) _
      have e0 := heap_alloc_new wr (.cells #[.string (S x.k), .string (S x.v), .bool x.g] 105)
      have hTx := hT.below hbx
      have hKx := hK.trans (KB.of_below (P := b) hbx)
      clear hcc c0 c1 c2
      go_upto_region 3 with fail
      generalize wr.alloc (.cells #[.string (S x.k), .string (S x.v), .bool x.g] 105) = wx at e0 hTx hKx ⊢
      have g0 := cell_of_row wx _ 0 _ _ _ e0
      have g1 := cell_of_row wx _ 1 _ _ _ e0
      have g2 := cell_of_row wx _ 2 _ _ _ e0
      simp only [List.getElem?_toArray, List.getElem?_cons_succ, List.getElem?_cons_zero] at g0 g1 g2
      clear d0 d1 d2 hbx hT hK e0
      have hown : wx.ownsMap Tryd.prog 9 Kv.vR b (n + k) (Kv.chs D (l.take k)) := hTx
      have hmx : n + k < maxLen := by unfold maxLen; omega
      cases hg : x.g with
      | true =>
        rw [hg] at g2
        have HG := Lib.hid hg
        clear hg
        go_wp2_with (at_delete; refine wpList_delete_own _ rfl _ _ 109 9 rfl 116 Tryd.keyed Tryd.underlying109 Kv.vR b (n + k) _ rfl hown _ _ rfl hkey ?_; intro w1 hown1 hturn1)
        have hfin : TB w1 b (n + (k + 1)) (Kv.chs D (l.take (k + 1))) := by
          rw [HTK.out]
          unfold Kv.ch
          rw [if_pos HG.out]
          exact World.ownsMap.mono hown1 (by omega)
        go_roundw
        case rel => exact ⟨k + 1, by omega, by go_num, hfin, hKx.trans (KB.of_turned hturn1)⟩
        case measure => simp [intOf]; omega
      | false =>
        rw [hg] at g2
        have HG := Lib.hid hg
        clear hg
        go_wp2_with (at_mapUpdate; refine wpList_mapUpdate_in _ rfl _ _ _ 109 rfl 9 116 Tryd.keyed Tryd.underlying109 Kv.vR b (n + k) _ rfl hown hmx _ _ _ rfl rfl hkey (Kv.valD x.v) [] rfl ?_; intro w1 hown1 hturn1)
        have hfin : TB w1 b (n + (k + 1)) (Kv.chs D (l.take (k + 1))) := by
          rw [HTK.out]
          unfold Kv.ch
          rw [if_neg (by rw [HG.out]; decide)]
          exact hown1
        go_roundw
        case rel => exact ⟨k + 1, by omega, by go_num, hfin, hKx.trans (KB.of_turned hturn1)⟩
        case measure => simp [intOf]; omega
    · have hkm : k = m := by omega
      have hfin : TB wr b (n + m) (Kv.chs D l) := by
        rw [hkm, List.take_of_length_le (by rw [HM.out]; exact Nat.le_refl _)] at hT
        exact hT
      clear hT hkm
      go_wp2
      refine bodyPost_end (results_none rfl _ _ _) rfl ?_
      exact ⟨rfl, hfin, hK⟩
end Go.Proofs.YtfceljbmdcbciaaDoor
namespace Go.Proofs.YtfceljbmdcbciaaDoor
set_option maxRecDepth 8000
open Go.RowKit

set_option maxHeartbeats 1600000 in
theorem kvClone_at (b : Nat) (es : Array MapEntry) (clock : Nat) (w : World) (hb : w.heap[b]? = some (.map es clock)) :
    Calls Tryd.prog 64 #[.map (some b)] w fun e w' => e = .returned (.map (some w.heap.size)) ∧ w' = w.alloc (.map es clock) := by
  have hq := fun w => run_eql_map_nil_sl (P := Tryd.prog) w 109 _ _ (some b) Tryd.underlying109
  go_enter Tryd.func64, Tryd.ntmps64
  go_wp2
  rw [run_callFunc_extern Tryd.func89 (by kernel_rfl) (by kernel_rfl) (by kernel_rfl) (e := Extern.MapsClone.clone) (by kernel_rfl), run_maps_clone_sl w 109 hb]
  simp only [Result.andThen]
  rw [Oper.upon_value]
  go_wp2
  rw [run_typeAssert_map_sl _ 109 _ _ _ _ Tryd.underlying109]
  simp only [Result.andThen]
  rw [Oper.upon_value]
  go_wp2
  go_ret
  exact ⟨rfl, rfl⟩
theorem kvClone_any (b n : Nat) (D : DataW Unit) (w : World) (h : TB w b n D) :
    Calls Tryd.prog 64 #[.map (some b)] w fun e w' => e = .returned (.map (some w.heap.size)) ∧ TB w' w.heap.size n D ∧ Below w.heap.size w w' := by
  obtain ⟨es, clock, hb, F, hs, hD⟩ := h
  refine (kvClone_at b es clock w hb).mono fun e w' ⟨he, hw⟩ => ?_
  subst hw
  exact ⟨he, ⟨es, clock, heap_alloc_new w _, F, hs, hD⟩, (Below.refl _ w).alloc (Nat.le_refl _) _⟩
end Go.Proofs.YtfceljbmdcbciaaDoor
