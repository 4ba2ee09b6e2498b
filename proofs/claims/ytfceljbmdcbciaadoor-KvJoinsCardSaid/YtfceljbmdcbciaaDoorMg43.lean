/- Keys and values in a row of the call's own; a prefix of no bytes. No condition. The keys and values of a table, as the program collects them, over what its sort must tell (SortOk). Condition: SortOk. -/
import Derived.Test.YtfceljbmdcbciaaDoorMg42
import Derived.Maps.AppendAt
import Derived.Maps.RangeWalk
namespace Go.Proofs.YtfceljbmdcbciaaDoor
set_option maxRecDepth 8000
open Go.RowKit

theorem Tryd.infoPair : (Tryd.prog.info? 125).map (fun i => (i.zero, i.size, i.bytes)) = some (some (.agg #[.string ⟨#[]⟩, .string ⟨#[]⟩]), 2, 32) := by kernel_rfl
def cells2 (l : List PairB) : List Value := l.flatMap fun c => [.string (S c.1), .string (S c.2)]
theorem cells2_cons (c : PairB) (l : List PairB) : cells2 (c :: l) = .string (S c.1) :: .string (S c.2) :: cells2 l := rfl
theorem cells2_append (a b : List PairB) : cells2 (a ++ b) = cells2 a ++ cells2 b := by simp [cells2]
theorem cells2_one (l : List PairB) : ∀ u ∈ cells2 l, u.oneCell' = true := by
  intro u hu
  unfold cells2 at hu
  rw [List.mem_flatMap] at hu
  obtain ⟨q, _, h⟩ := hu
  simp at h
  rcases h with rfl | rfl <;> rfl
theorem cells2_at : ∀ (l : List PairB) (k : Nat) (h : k < l.length), (cells2 l)[k * 2]? = some (.string (S l[k].1)) ∧ (cells2 l)[k * 2 + 1]? = some (.string (S l[k].2))
  | [], k, h => absurd h (Nat.not_lt_zero _)
  | c :: l, 0, _ => ⟨rfl, rfl⟩
  | c :: l, k + 1, h => by
    obtain ⟨h1, h2⟩ := cells2_at l k (by simpa using h)
    rw [cells2_cons, show (k + 1) * 2 = k * 2 + 2 by omega]
    exact ⟨h1, h2⟩
/-- Pairs of the call's own. -/
def PrRow (base : Nat) (w : World) (v : Value) (l : List PairB) : Prop := w.ownsRow base 125 2 v l.length (cells2 l)
theorem PrRow.cells {base : Nat} {w : World} {A : Option Addr} {n c : Nat} {l : List PairB} (h : PrRow base w (.slice A n c) l) : PCells w w.heap.size A l := fun hn => by
  rcases h.2 with ⟨_, h0⟩ | ⟨g, cap, cur, e, hbg, hg, _⟩
  · omega
  · injection e with e1 e2 e3
    subst e1 e2 e3
    have hlt : g < w.heap.size := (Array.getElem?_eq_some_iff.1 hg).1
    refine ⟨g, 0, rfl, hlt, fun k hk => ?_⟩
    obtain ⟨h1, h2⟩ := cells2_at l k hk
    have e1 := World.ownsRow.cells h (g := g) rfl _ _ h1
    have e2 := World.ownsRow.cells h (g := g) rfl _ _ h2
    rw [Addr.add_mid] at e1 e2
    exact ⟨e1, e2⟩
/-- append(l, c). -/
theorem step_pair {W : World} {ops : Array Oper} {o : Oper} {a : Act} {K : Act → World → Prop} {Q : Exit → Act → World → Prop} {E : Prop} (hgd : o.guard = none) (s x : Operand) (base B : Nat) (v : Value) (l : List PairB) (c : PairB)
    (ho : o.op = .call { callee := .builtin .append, args := #[s, x], argTypes := #[60, 60] }) (hs : a.eval s = v) (hx : a.eval x = .slice (some ⟨B, 0, none⟩) 1 1)
    (hown : PrRow base W v l) (hB : W.heap[B]? = some (.cells #[.string (S c.1), .string (S c.2)] 125 (0, 0))) (hn : l.length ≤ 1048576) (hb : base ≤ W.heap.size)
    (hK : ∀ g cap W', PrRow base W' (.slice (some ⟨g, 0, none⟩) (l.length + 1) cap) (l ++ [c]) → Below base W W' → K (a.put o.dst (.slice (some ⟨g, 0, none⟩) (l.length + 1) cap)) W') :
    if Region.wanted o (yielded ops a.tmps) = true then Oper.wp Tryd.prog o a W K Q else E := by
  rw [if_pos (by simp [Region.wanted, hgd])]
  obtain ⟨i0, hi, hz0, hz1, hz2⟩ := info_parts Tryd.infoPair
  obtain ⟨g, cap, W', hr, h2, h3, h4, _⟩ := run_append_lies (P := Tryd.prog) W 60 o.type base 125 i0 _ 2 32 Tryd.underlying60 hi hz0 hz1 hz2 rfl (by omega) v l.length (cells2 l) hown ⟨B, 0, none⟩ 1 1 (cells2 [c]) rfl (World.news_of_block (cs := #[.string (S c.1), .string (S c.2)]) hB) (cells2_one [c]) (by omega) (by unfold maxLen; omega) (by omega) hb W.heap.size rfl
  unfold Oper.wp execOp
  simp only [ho, resolve, invoke, builtin, Sem.run_bind, Sem.run_pure, Result.andThen_ok, List.map_toArray, List.map_cons, List.map_nil, hs, hx, hr]
  refine hK g cap W' ?_ ((Below.refl _ _).grown h3 hb (fun k hk => (World.ownsRow.lt hown k hk).1))
  unfold PrRow
  rw [List.length_append, cells2_append]
  exact h2
theorem wpList_pair {W : World} {ops : Array Oper} {rest : List Oper} {o : Oper} {a : Act} {Q : Exit → Act → World → Prop} (hgd : o.guard = none) (s x : Operand) (base B : Nat) (v : Value) (l : List PairB) (c : PairB)
    (ho : o.op = .call { callee := .builtin .append, args := #[s, x], argTypes := #[60, 60] }) (hs : a.eval s = v) (hx : a.eval x = .slice (some ⟨B, 0, none⟩) 1 1)
    (hown : PrRow base W v l) (hB : W.heap[B]? = some (.cells #[.string (S c.1), .string (S c.2)] 125 (0, 0))) (hn : l.length ≤ 1048576) (hb : base ≤ W.heap.size)
    (h : ∀ g cap W', PrRow base W' (.slice (some ⟨g, 0, none⟩) (l.length + 1) cap) (l ++ [c]) → Below base W W' → wpList Tryd.prog ops Q rest (a.put o.dst (.slice (some ⟨g, 0, none⟩) (l.length + 1) cap)) W') : wpList Tryd.prog ops Q (o :: rest) a W :=
  BigFrame.wpList_want (by simp [Region.wanted, hgd]) fun K hK => by
    have h1 := step_pair (ops := ops) (K := K) (Q := Q) (E := True) hgd s x base B v l c ho hs hx hown hB hn hb (fun g cap W' h2 h3 => hK _ _ (h g cap W' h2 h3))
    rwa [if_pos (by simp [Region.wanted, hgd])] at h1
set_option maxHeartbeats 400000 in
theorem lite_prefix_none (k : List UInt8) (w : World) : Calls Tryd.prog 110 #[.string (S k), .string ⟨#[]⟩] w fun e w' => e = .returned (.bool true) ∧ w = w' := by
  have hE : (S k).extract 0 0 = ⟨#[]⟩ := by
    apply ByteArray.ext
    simp
  go_enter Tryd.func110, Tryd.ntmps110
  go_wp2_with fail
  go_ret
  first
    | exact ⟨rfl, rfl⟩
    | exact ⟨ret_bool (by simp), rfl⟩
theorem prefix_none (k : List UInt8) (w : World) : Calls Tryd.prog 83 #[.string (S k), .string ⟨#[]⟩] w fun e w' => e = .returned (.bool true) ∧ w = w' := by
  have hL := lite_prefix_none k w
  go_enter Tryd.func83, Tryd.ntmps83
  go_wp2_with (go_at_call 110; refine hL.mono ?_; rintro e w1 ⟨rfl, rfl⟩)
  go_ret
  exact ⟨rfl, rfl⟩
end Go.Proofs.YtfceljbmdcbciaaDoor
namespace Go.Proofs.YtfceljbmdcbciaaDoor
set_option maxRecDepth 8000
open Go.RowKit

/-- What the program's sort must tell. -/
def SortOk : Prop := ∀ (w : World) (base : Nat) (v : Value) (l : List PairB), PrRow base w v l → base ≤ w.heap.size → l.length ≤ 1048576 →
  Calls Tryd.prog 84 #[v, .func (.func 85) #[] #[]] w fun e w' => e = .returned (.tuple #[]) ∧ ∃ l' : List PairB, l'.Perm l ∧ l'.Pairwise (fun a b => ¬ Kv.cmpB b.1 a.1 < 0) ∧ (∃ A c, v = .slice A l'.length c ∧ PCells w' w'.heap.size A l') ∧ Below base w w'
namespace Kv
theorem valD_one {a b : List UInt8} (h : valD a = valD b) : a = b := by
  unfold valD at h
  injection h with h
  injection h with h _
  injection h with h
  injection h
/-- What is told so far: what the table holds and is not to come. -/
structure Got (D : DataW Unit) (left : Lit → Bool) (acc : List PairB) : Prop where
  is : ∀ p, p ∈ acc ↔ Held D p ∧ left (.string p.1) = false
  once : acc.Pairwise (fun a b => a.1 ≠ b.1)
  held : ∀ kl, left kl = true → Maps.has D kl = true
theorem Got.start (D : DataW Unit) : Got D (Maps.has D) [] where
  is := fun p => ⟨fun h => absurd h (by simp), fun h => by
    have h1 := h.1.1
    rw [h.2] at h1
    cases h1⟩
  once := List.Pairwise.nil
  held := fun _ h => h
theorem Got.step {D : DataW Unit} {left : Lit → Bool} {acc : List PairB} (h : Got D left acc) {x v : List UInt8} (hl : left (.string x) = true) (hv : ∀ zd, D.atKey (.string x) zd = valD v) : Got D (fun z => left z && !z.sameKey (.string x)) (acc ++ [(x, v)]) where
  is := fun p => by
    have hs : (Lit.string x).sameKey (.string x) = true := WideAt.sameKey_self trivial
    rw [List.mem_append, h.is p]
    constructor
    · rintro (⟨h1, h2⟩ | h1)
      · exact ⟨h1, by show (left (.string p.1) && _) = false; rw [h2]; rfl⟩
      · have h2 : p = (x, v) := by simpa using h1
        subst h2
        exact ⟨⟨h.held _ hl, hv⟩, by show (left (.string x) && !(Lit.string x).sameKey (.string x)) = false; rw [hs]; simp⟩
    · rintro ⟨h1, h2⟩
      have h2' : (left (.string p.1) && !(Lit.string p.1).sameKey (.string x)) = false := h2
      cases hq : left (.string p.1) with
      | false => exact .inl ⟨h1, rfl⟩
      | true =>
        rw [hq] at h2'
        have h3 : (Lit.string p.1).sameKey (.string x) = true := by simpa using h2'
        have h4 := WideAt.sameKey_eq h3
        injection h4 with h4
        have h5 := h1.2 .nil
        rw [h4, hv] at h5
        have h6 := valD_one h5
        refine .inr ?_
        have : p = (x, v) := Prod.ext h4 h6.symm
        rw [this]
        simp
  once := by
    rw [List.pairwise_append]
    refine ⟨h.once, by simp, fun a ha b hb => ?_⟩
    have hb' : b = (x, v) := by simpa using hb
    subst hb'
    intro e
    have h1 := ((h.is a).1 ha).2
    rw [e] at h1
    dsimp only at h1
    rw [hl] at h1
    cases h1
  held := fun kl hk => by
    have hk' : (left kl && !kl.sameKey (.string x)) = true := hk
    exact h.held kl (by simp at hk'; exact hk'.1)
theorem Got.told {D : DataW Unit} {left : Lit → Bool} {acc l : List PairB} (h : Got D left acc) (h0 : ∀ kl, left kl = false) (hp : l.Perm acc) (hs : l.Pairwise (fun a b => ¬ cmpB b.1 a.1 < 0)) : Told D l := by
  have ho : l.Pairwise (fun a b => a.1 ≠ b.1) := (hp.symm.pairwise_iff (fun hne => Ne.symm hne)).1 h.once
  refine ⟨(hs.and ho).imp ?_, fun p => ?_⟩
  · rintro a b ⟨h1, h2⟩
    have h3 := cmp_neg a.1 b.1
    rcases Int.lt_trichotomy (cmpB a.1 b.1) 0 with h4 | h4 | h4
    · exact h4
    · exact absurd (cmp_zero _ _ h4) h2
    · exact absurd (show cmpB b.1 a.1 < 0 by omega) h1
  · rw [hp.mem_iff, h.is p]
    exact ⟨fun h => h.1, fun h => ⟨h, h0 _⟩⟩
end Kv
theorem PrRow.form {base : Nat} {w : World} {v : Value} {l : List PairB} (h : PrRow base w v l) : ∃ A c, v = .slice A l.length c := by
  rcases h.2 with ⟨e, h0⟩ | ⟨g, cap, cur, e, _⟩
  · exact ⟨none, 0, by rw [e, h0]⟩
  · exact ⟨_, cap, e⟩
theorem ranges_at {w w' : World} {b r n cnt : Nat} {D : DataW Unit} {left : Lit → Bool} (h : w.ranges Tryd.prog 9 Kv.vR b r n D left cnt) (h1 : w'.heap[b]? = w.heap[b]?) (h2 : w'.heap[r]? = w.heap[r]?) : w'.ranges Tryd.prog 9 Kv.vR b r n D left cnt := by
  obtain ⟨es, clock, since, seen, c0, a1, a2, a3, a4, a5, a6⟩ := h
  exact ⟨es, clock, since, seen, c0, h1.trans a1, a2, a3, a4, h2.trans a5, a6⟩
theorem grown_of {w w' : World} (h : Below w.heap.size w w') : w.grownBy w' none := ⟨h.os, h.tape, h.output, h.size, fun i hi _ => h.block i hi⟩
theorem below_of {w w' : World} (h : w.grownBy w' none) : Below w.heap.size w w' := ⟨h.os, h.tape, h.output, h.size, fun i hi => h.block i hi (by simp)⟩

set_option maxHeartbeats 3200000 in
theorem kvTablePairs_any (hS : SortOk) (w : World) (b n : Nat) (D : DataW Unit) (hT : TB w b n D) (hn : n ≤ 1048576) :
    Calls Tryd.prog 60 #[.map (some b), .string ⟨#[]⟩] w fun e w' => ∃ A c l, e = .returned (.slice A (List.length l) c) ∧ PCells w' w'.heap.size A l ∧ Kv.Told D l ∧ Below w.heap.size w w' ∧ List.length l ≤ n := by
  have hbl := hT.lt
  have hsD : Maps.size D ≤ n := by
    obtain ⟨es, clock, _, F, hs, hD⟩ := hT
    rw [hD]
    simp [Maps.size, length_sorted]
    exact hs
  go_enter Tryd.func60, Tryd.ntmps60
  go_wp2_with (first
    | (at_range; refine wpList_range_own _ rfl _ 109 rfl 9 116 Tryd.keyed Tryd.underlying109 _ b n _ rfl hT ?_; intro w0 hrg0 hg0 hs0)
    | go_in)
  go_frame
  have hgB := below_of hg0
  have hr0 : PrRow (w.heap.size + 1) w0 (.slice none 0 0) [] := ⟨rfl, .inl ⟨rfl, rfl⟩⟩
  have HG0 := Lib.hid (Kv.Got.start D)
  go_loopw [5] (fun v wr => ∃ (left : Lit → Bool) (cnt : Nat) (acc : List PairB), PrRow (w.heap.size + 1) wr v acc ∧ wr.ranges Tryd.prog 9 Kv.vR b w.heap.size n D left cnt ∧ Kv.Got D left acc ∧ Below w.heap.size w wr ∧ w.heap.size + 1 ≤ wr.heap.size ∧ acc.length + cnt ≤ Maps.size D) (fun _ wr => wr.rangeLeft b w.heap.size)
  case atStart => exact ⟨_, _, [], hr0, hrg0, HG0.out, hgB, by omega, by rw [List.length_nil, Nat.zero_add]; exact Nat.le_refl _⟩
  case round =>
    clear hr0 hrg0 hgB hg0
    obtain ⟨left, cnt, acc, hrow, hrg, hgot, hb, hsz, hcnt⟩ := hrel
    go_wp2_with (first
      | (at_next; refine wpList_next_ranges _ rfl _ rfl 9 Tryd.keyed Kv.vR (fun x : List UInt8 => .string (S x)) (fun x : List UInt8 => .agg #[.string (S x)]) (fun key kl hk => by
          obtain ⟨s, rfl, _, _⟩ := WideMaps.string_of_keyOf Tryd.underlying9 hk
          exact ⟨s.data.toList, rfl⟩) (fun v y hv => by
          obtain ⟨s, rfl, _⟩ := Kv.vR_inv hv
          exact ⟨s.data.toList, rfl⟩) b w.heap.size n _ _ _ rfl hrg ?_ ?_)
      | go_in)
    · intro _ hl0
      have HSO := Lib.hid (hS wr (w.heap.size + 1) _ acc hrow hsz (by omega))
      have HGT := Lib.hid (fun (l : List PairB) (hp : l.Perm acc) (hs : l.Pairwise (fun a b => ¬ Kv.cmpB b.1 a.1 < 0)) => hgot.told hl0 hp hs)
      clear hl0 hgot hrg
      go_wp2_with fail
      refine HSO.out.mono ?_
      rintro e w2 ⟨rfl, l', hp, hs, ⟨A, c, hv, hce⟩, hb2⟩
      have HCE := Lib.hid hce
      clear hce
      go_wp2_with fail
      go_ret
      exact ⟨A, c, l', rfl, HCE.out, HGT.out l' hp hs, hb.trans (hb2.mono (by omega)), by have := hp.length_eq; omega⟩
    · intro x v kl yd yp w1 cnt1 hkey hlk hvR hat hrg1 hlt hg1 hs1 hen
      have hyd : yd = Kv.valD v := (congrArg Prod.fst (Option.some.inj hvR)).symm
      have hkl : kl = .string x := by
        obtain ⟨s, h1, h2, _⟩ := WideMaps.string_of_keyOf Tryd.underlying9 hkey
        injection h1 with h1
        rw [h2, ← h1]
        rfl
      subst hkl
      have HGS := Lib.hid (hgot.step hlk (v := v) (fun zd => by rw [hat, hyd]))
      have hrow1 : PrRow (w.heap.size + 1) w1 _ acc := World.ownsRow.kept hrow hg1 (.inr (fun e => by have := (World.ownsRow.lt hrow _ e).1; omega))
      have hb1 : Below w.heap.size w w1 := hb.trans ⟨hg1.os, hg1.tape, hg1.output, hg1.size, fun i hi => hg1.block i (by omega) (fun e => by injection e with e; omega)⟩
      have hme := hrg.left_eq
      clear hgot hlk hat hyd hvR hkey hrow hrg hg1 hb
      have HPX := Lib.hid (fun w' => prefix_none x w')
      go_upto_region 5 with fail
      have hbx : Below w1.heap.size w1 (w1.alloc (.cells #[.string (S v)] 116)) := (Below.refl _ _).alloc (Nat.le_refl _) _
      have e0 := heap_alloc_new w1 (.cells #[.string (S v)] 116)
      rw [hs1] at e0
      have hrowx := own_below hrow1 hbx
      have hrgx := hrg1.kept (grown_of hbx) (by simp) (by simp)
      have hbwx := hb1.trans (hbx.mono hb1.size)
      have hzx := hbx.size
      generalize w1.alloc (.cells #[.string (S v)] 116) = wx at e0 hrowx hrgx hbwx hzx ⊢
      have hcv := cell_of_row wx _ 0 _ _ _ e0
      simp only [List.getElem?_toArray, List.getElem?_cons_zero] at hcv
      clear hbx hrow1 hrg1 hb1 e0 hen
      go_wp2_with fail
      refine (HPX.out wx).mono ?_
      rintro _ _ ⟨rfl, rfl⟩
      go_wp2_with (at_builtin; refine wpList_pair rfl (.tmp 18) (.tmp 23) (w.heap.size + 1) wx.heap.size _ acc (x, v) rfl rfl rfl (World.ownsRow.alloc hrowx _) (heap_alloc_new wx _) (by omega) (by rw [World.size_alloc]; omega) ?_; intro g cap w6 hown6 hb6)
      have hba : Below wx.heap.size wx (wx.alloc (.cells #[.string (S x), .string (S v)] 125)) := (Below.refl _ _).alloc (Nat.le_refl _) _
      have hrg6 := (hrgx.kept (grown_of hba) (by simp) (by simp))
      have hrg7 := ranges_at hrg6 (hb6.block b (by omega)) (hb6.block w.heap.size (by omega))
      have hbf := (hbwx.trans (hba.mono hbwx.size)).trans (hb6.mono (by omega))
      have hz6 := hb6.size
      have hza := hba.size
      refine ⟨⟨_, cnt1, acc ++ [(x, v)], hown6, hrg7, HGS.out, hbf, by omega, ?_⟩, ?_⟩
      · rw [List.length_append, List.length_singleton]
        omega
      · rw [hrg7.left_eq, hme]
        exact hlt
end Go.Proofs.YtfceljbmdcbciaaDoor
