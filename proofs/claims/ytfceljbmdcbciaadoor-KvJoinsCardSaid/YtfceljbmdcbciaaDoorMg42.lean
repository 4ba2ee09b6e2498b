/- Keys and values compared: the statements' Pairs. No condition. Keys and values by rising keys, plain: one list alone tells a table. No condition. -/
import Derived.Test.YtfceljbmdcbciaaDoorMg39
import Derived.Test.YtfceljbmdcbciaaDoorMg08
import Derived.Lib.Bytealg
namespace Go.Proofs.YtfceljbmdcbciaaDoor
set_option maxRecDepth 8000
open Go.RowKit

abbrev PairB := List UInt8 × List UInt8
/-- The address A holds the cells of the pairs l, in a block below B. -/
def PCells (w : World) (B : Nat) (A : Option Addr) (l : List PairB) : Prop :=
  0 < l.length → ∃ b off, A = some ⟨b, off, none⟩ ∧ b < B ∧ ∀ k (h : k < l.length), w.cell? ⟨b, off + k * 2, none⟩ = some (.string (S l[k].1)) ∧ w.cell? ⟨b, off + k * 2 + 1, none⟩ = some (.string (S l[k].2))
theorem Tryd.heldPair : Tryd.prog.stoodInHeld 125 = false := by kernel_rfl
theorem Tryd.guardPair : Tryd.prog.eqGuardType Tryd.prog.depth 125 = false := by kernel_rfl
theorem Tryd.fieldsPair : Tryd.prog.underlying 125 = some (.struct (Tryd.prog.fieldsOf 125)) := by kernel_rfl
theorem Tryd.sizeString : (Tryd.prog.info? 9).map (·.size) = some 1 := by kernel_rfl
theorem run_neq_pair (w : World) (x y x' y' : ByteArray) : (binOp .neq 125 (.agg #[.string x, .string y]) (.agg #[.string x', .string y'])).run Tryd.prog w = .ok (.bool (!((x.toList == x'.toList) && (y.toList == y'.toList)))) w := by
  rw [run_neq_struct, run_equalIn_struct w 9999 _ _ _ Tryd.fieldsPair Tryd.heldPair]
  simp [Program.fieldsOf, Tryd.underlying125, Op.eqFields, go_sem]
  by_cases h1 : x.toList = x'.toList <;> by_cases h2 : y.toList = y'.toList <;> simp [h1, h2]
theorem run_neq_eq (w : World) (q q' : PairB) (h : q = q') : (binOp .neq 125 (.agg #[.string (S q.1), .string (S q.2)]) (.agg #[.string (S q'.1), .string (S q'.2)])).run Tryd.prog w = .ok (.bool false) w := by
  rw [run_neq_pair, h]
  simp
theorem run_neq_ne (w : World) (q q' : PairB) (h : q ≠ q') : (binOp .neq 125 (.agg #[.string (S q.1), .string (S q.2)]) (.agg #[.string (S q'.1), .string (S q'.2)])).run Tryd.prog w = .ok (.bool true) w := by
  rw [run_neq_pair]
  have hs : ∀ l : List UInt8, (S l).toList = l := fun l => by rw [Lib.toList_data]; rfl
  rw [hs, hs, hs, hs]
  have : ¬ (q.1 = q'.1 ∧ q.2 = q'.2) := fun ⟨h1, h2⟩ => h (Prod.ext h1 h2)
  by_cases h1 : q.1 = q'.1
  · have h2 : ¬ q.2 = q'.2 := fun h2 => this ⟨h1, h2⟩
    simp [h1, h2]
  · simp [h1]
set_option maxHeartbeats 400000 in
theorem pairs_same (A A' : Option Addr) (cap cap' : Nat) (l m : List PairB) (w : World) (hlm : l.length = m.length) (hl : PCells w w.heap.size A l) (hm : PCells w w.heap.size A' m) (hb : l.length ≤ 1099511627776) :
    Calls Tryd.prog 30 #[.slice A l.length cap, .slice A' m.length cap'] w fun e w' => e = .returned (.bool (decide (l = m))) ∧ ∃ n, w' = w.drewN n := by
  have HLM := Lib.hid hlm
  have hne : ((l.length : Int) != (m.length : Int)) = false := by simp; omega
  clear hlm
  go_enter Tryd.func30, Tryd.ntmps30
  go_wp2
  go_loopw [5] (fun i wr => ∃ k : Nat, k ≤ l.length ∧ i = .int .i64 k ∧ l.take k = m.take k ∧ ∃ n, wr = w.drewN n) (fun i _ => l.length - (intOf i).toNat)
  case atStart => exact ⟨0, Nat.zero_le _, rfl, rfl, 0, rfl⟩
  case round =>
    obtain ⟨k, hk, rfl, htk, n, rfl⟩ := hrel
    have HT := Lib.hid htk
    clear htk
    by_cases hlt : k < l.length
    · have hlt' : k < m.length := by have := HLM.out; omega
      obtain ⟨b, off, rfl, hbb, hc⟩ := hl (by omega)
      obtain ⟨b', off', rfl, hbb', hc'⟩ := hm (by omega)
      obtain ⟨c0, c1⟩ := hc k hlt
      obtain ⟨d0, d1⟩ := hc' k hlt'
      clear hc hc' hl hm
      have i0 : (0 : Int) ≤ (k : Int) := by omega
      have i1 : (k : Int) < (l.length : Int) := by omega
      have i2 : (k : Int) < (m.length : Int) := by omega
      have hgd := fun w' : World => run_eqGuard_agg (P := Tryd.prog) w' .neq 125 (.tmp 20) (.tmp 24) #[.string (S l[k].1), .string (S l[k].2)] #[.string (S m[k].1), .string (S m[k].2)] Tryd.guardPair
      by_cases hq : l[k] = m[k]
      · have hneq := fun w' : World => run_neq_eq w' l[k] m[k] hq
        have HQ := Lib.hid hq
        clear hq
        go_wp2
        go_quiet (fail)
        go_wp2
        go_roundw
        case rel =>
          refine ⟨k + 1, by omega, by go_num, ?_, _, rfl⟩
          rw [List.take_succ_eq_append_getElem hlt, List.take_succ_eq_append_getElem hlt', HT.out, HQ.out]
        case measure => simp [intOf]; omega
      · have hneq := fun w' : World => run_neq_ne w' l[k] m[k] hq
        have HQ := Lib.hid hq
        clear hq
        go_wp2
        go_quiet (fail)
        go_wp2
        go_ret
        refine ⟨ret_bool ?_, _, World.drewN_drewN _ _ _⟩
        have hne' : l ≠ m := by
          intro h
          subst h
          exact HQ.out rfl
        simp [hne']
    · have hkl : l = m := by
        have := HT.out
        rwa [List.take_of_length_le (by omega), List.take_of_length_le (by have := HLM.out; omega)] at this
      have HK := Lib.hid hkl
      clear hkl
      go_wp2
      go_ret
      exact ⟨ret_bool (by rw [HK.out]; simp), n, rfl⟩
set_option maxHeartbeats 400000 in
theorem pairs_other (A A' : Option Addr) (cap cap' : Nat) (l m : List PairB) (w : World) (hlm : l.length ≠ m.length) :
    Calls Tryd.prog 30 #[.slice A l.length cap, .slice A' m.length cap'] w fun e w' => e = .returned (.bool (decide (l = m))) ∧ ∃ n, w' = w.drewN n := by
  have hne : ((l.length : Int) != (m.length : Int)) = true := by simp; omega
  have HLM := Lib.hid hlm
  clear hlm
  go_enter Tryd.func30, Tryd.ntmps30
  go_wp2
  go_ret
  refine ⟨ret_bool ?_, 0, rfl⟩
  have hne' : l ≠ m := by
    intro h
    subst h
    exact HLM.out rfl
  simp [hne']
/-- The slice value v reads as the pairs l, in a block below B. -/
def PReads (w : World) (B : Nat) (v : Value) (l : List PairB) : Prop := ∃ A cap, v = .slice A l.length cap ∧ PCells w B A l
theorem pairs_any (v v' : Value) (l m : List PairB) (w : World) (hl : PReads w w.heap.size v l) (hm : PReads w w.heap.size v' m) (hb : l.length ≤ 1099511627776) :
    Calls Tryd.prog 30 #[v, v'] w fun e w' => e = .returned (.bool (decide (l = m))) ∧ ∃ n, w' = w.drewN n := by
  obtain ⟨A, cap, rfl, h1⟩ := hl
  obtain ⟨A', cap', rfl, h2⟩ := hm
  by_cases h : l.length = m.length
  · exact pairs_same A A' cap cap' l m w h h1 h2 hb
  · exact pairs_other A A' cap cap' l m w h
theorem PCells.keep {w w' : World} {B : Nat} {A : Option Addr} {l : List PairB} (h : PCells w B A l) (hb : Below B w w') : PCells w' B A l := fun hn => by
  obtain ⟨b, off, e, hlt, hc⟩ := h hn
  exact ⟨b, off, e, hlt, fun k hk => ⟨(hb.cell (p := ⟨b, off + k * 2, none⟩) hlt).trans (hc k hk).1, (hb.cell (p := ⟨b, off + k * 2 + 1, none⟩) hlt).trans (hc k hk).2⟩⟩
theorem PCells.more {w : World} {B B' : Nat} {A : Option Addr} {l : List PairB} (h : PCells w B A l) (hb : B ≤ B') : PCells w B' A l := fun hn => by
  obtain ⟨b, off, e, hlt, hc⟩ := h hn
  exact ⟨b, off, e, Nat.lt_of_lt_of_le hlt hb, hc⟩
theorem PCells.next {w w' : World} {A : Option Addr} {l : List PairB} (h : PCells w w.heap.size A l) (hb : Below w.heap.size w w') : PCells w' w'.heap.size A l := (h.keep hb).more hb.size
/-- Pairs. -/
theorem kvPairs_any (w : World) (A A' : Option Addr) (c c' : Nat) (l m : List PairB) (hl : PCells w w.heap.size A l) (hm : PCells w w.heap.size A' m) (hb : l.length ≤ 1099511627776) :
    Calls Tryd.prog 30 #[.slice A l.length c, .slice A' m.length c'] w fun e w' => e = .returned (.bool (decide (l = m))) ∧ Below w.heap.size w w' :=
  (pairs_any _ _ l m w ⟨A, c, rfl, hl⟩ ⟨A', c', rfl, hm⟩ hb).mono fun e w' ⟨he, n, hw⟩ => ⟨he, by rw [hw]; exact ⟨rfl, rfl, rfl, Nat.le_refl _, fun _ _ => rfl⟩⟩
end Go.Proofs.YtfceljbmdcbciaaDoor
namespace Go.Proofs.YtfceljbmdcbciaaDoor
set_option maxRecDepth 8000
namespace Kv
abbrev cmpB := Go.Lib.compareBytes
theorem cmp_self : ∀ a : List UInt8, cmpB a a = 0
  | [] => rfl
  | x :: a => by
    show (if x < x then (-1 : Int) else if x < x then 1 else cmpB a a) = 0
    have h : ¬ x < x := by
      intro h
      exact absurd (UInt8.lt_iff_toNat_lt.1 h) (Nat.lt_irrefl _)
    rw [if_neg h, if_neg h, cmp_self a]
theorem u8_three (x y : UInt8) : x < y ∧ ¬ y < x ∨ y < x ∧ ¬ x < y ∨ x = y ∧ ¬ x < y ∧ ¬ y < x := by
  simp only [UInt8.lt_iff_toNat_lt]
  rcases Nat.lt_trichotomy x.toNat y.toNat with h | h | h
  · exact .inl ⟨h, by omega⟩
  · exact .inr (.inr ⟨UInt8.toNat_inj.1 h, by omega, by omega⟩)
  · exact .inr (.inl ⟨h, by omega⟩)
theorem cmp_cons (x y : UInt8) (a b : List UInt8) : cmpB (x :: a) (y :: b) = if x < y then -1 else if y < x then 1 else cmpB a b := rfl
theorem cmp_zero : ∀ a b : List UInt8, cmpB a b = 0 → a = b
  | [], [], _ => rfl
  | [], _ :: _, h => absurd (show (-1 : Int) = 0 from h) (by decide)
  | _ :: _, [], h => absurd (show (1 : Int) = 0 from h) (by decide)
  | x :: a, y :: b, h => by
    rw [cmp_cons] at h
    rcases u8_three x y with ⟨h1, h2⟩ | ⟨h1, h2⟩ | ⟨h1, h2, h3⟩
    · rw [if_pos h1] at h
      exact absurd h (by decide)
    · rw [if_neg h2, if_pos h1] at h
      exact absurd h (by decide)
    · rw [if_neg h2, if_neg h3] at h
      rw [h1, cmp_zero a b h]
theorem cmp_neg : ∀ a b : List UInt8, cmpB a b = - cmpB b a
  | [], [] => rfl
  | [], _ :: _ => rfl
  | _ :: _, [] => rfl
  | x :: a, y :: b => by
    rw [cmp_cons, cmp_cons]
    rcases u8_three x y with ⟨h1, h2⟩ | ⟨h1, h2⟩ | ⟨h1, h2, h3⟩
    · rw [if_pos h1, if_neg h2, if_pos h1]
    · rw [if_neg h2, if_pos h1, if_pos h1]
      rfl
    · rw [if_neg h2, if_neg h3, if_neg h3, if_neg h2, cmp_neg a b]
theorem cmp_trans : ∀ a b c : List UInt8, cmpB a b < 0 → cmpB b c < 0 → cmpB a c < 0
  | [], [], _, h, _ => absurd (show (0 : Int) < 0 from h) (by decide)
  | [], _ :: _, [], _, h => absurd (show (1 : Int) < 0 from h) (by decide)
  | [], _ :: _, _ :: _, _, _ => show (-1 : Int) < 0 by decide
  | _ :: _, [], _, h, _ => absurd (show (1 : Int) < 0 from h) (by decide)
  | _ :: _, _ :: _, [], _, h => absurd (show (1 : Int) < 0 from h) (by decide)
  | x :: a, y :: b, z :: c, h, k => by
    rw [cmp_cons] at h k ⊢
    rcases u8_three x y with ⟨h1, h2⟩ | ⟨h1, h2⟩ | ⟨h1, h2, h3⟩
    · rcases u8_three y z with ⟨k1, k2⟩ | ⟨k1, k2⟩ | ⟨k1, k2, k3⟩
      · have : x < z := by
          rw [UInt8.lt_iff_toNat_lt] at h1 k1 ⊢
          omega
        rw [if_pos this]
        decide
      · rw [if_neg k2, if_pos k1] at k
        exact absurd k (by decide)
      · subst k1
        rw [if_pos h1]
        decide
    · rw [if_neg h2, if_pos h1] at h
      exact absurd h (by decide)
    · subst h1
      rw [if_neg h2, if_neg h2] at h
      rcases u8_three x z with ⟨k1, k2⟩ | ⟨k1, k2⟩ | ⟨k1, k2, k3⟩
      · rw [if_pos k1]
        decide
      · rw [if_neg k2, if_pos k1] at k
        exact absurd k (by decide)
      · rw [if_neg k2, if_neg k3] at k ⊢
        exact cmp_trans a b c h k
/-- What a table holds. -/
def Held (D : DataW Unit) (p : PairB) : Prop := Maps.has D (.string p.1) = true ∧ ∀ zd, D.atKey (.string p.1) zd = valD p.2
/-- A list by rising keys that tells a table. -/
def Told (D : DataW Unit) (l : List PairB) : Prop := l.Pairwise (fun a b => cmpB a.1 b.1 < 0) ∧ ∀ p, p ∈ l ↔ Held D p
theorem sorted_one : ∀ l l' : List PairB, l.Pairwise (fun a b => cmpB a.1 b.1 < 0) → l'.Pairwise (fun a b => cmpB a.1 b.1 < 0) → (∀ p, p ∈ l ↔ p ∈ l') → l = l'
  | [], [], _, _, _ => rfl
  | [], b :: l', _, _, h => absurd ((h b).2 (List.mem_cons_self ..)) (by simp)
  | a :: l, [], _, _, h => absurd ((h a).1 (List.mem_cons_self ..)) (by simp)
  | a :: l, b :: l', h1, h2, h => by
    rw [List.pairwise_cons] at h1 h2
    have hab : a = b := by
      rcases List.mem_cons.1 ((h a).1 (List.mem_cons_self ..)) with e | ha
      · exact e
      · rcases List.mem_cons.1 ((h b).2 (List.mem_cons_self ..)) with e | hb
        · exact e.symm
        · have k1 := h2.1 a ha
          have k2 := h1.1 b hb
          have := cmp_trans _ _ _ k1 k2
          rw [cmp_self] at this
          exact absurd this (by decide)
    subst hab
    rw [sorted_one l l' h1.2 h2.2 (fun p => ⟨fun hp => ?_, fun hp => ?_⟩)]
    · rcases List.mem_cons.1 ((h p).1 (List.mem_cons_of_mem _ hp)) with e | hq
      · have := h1.1 p hp
        rw [e, cmp_self] at this
        exact absurd this (by decide)
      · exact hq
    · rcases List.mem_cons.1 ((h p).2 (List.mem_cons_of_mem _ hp)) with e | hq
      · have := h2.1 p hp
        rw [e, cmp_self] at this
        exact absurd this (by decide)
      · exact hq
theorem told_one {D : DataW Unit} {l l' : List PairB} (h : Told D l) (h' : Told D l') : l = l' :=
  sorted_one l l' h.1 h'.1 fun p => (h.2 p).trans (h'.2 p).symm
theorem told_nil : Told (.map []) [] := ⟨List.Pairwise.nil, fun p => ⟨fun h => absurd h (by simp), fun h => by
  have := h.1
  cases this⟩⟩
end Kv
end Go.Proofs.YtfceljbmdcbciaaDoor
