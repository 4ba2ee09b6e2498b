/- Encode: the program's. No condition but that changes lie in memory. Changes in a row of the call's own: how one is appended. No condition. -/
import Derived.Test.YtfceljbmdcbciaaDoorMg06
import Derived.Maps.AppendAt
namespace Go.Proofs.YtfceljbmdcbciaaDoor
set_option maxRecDepth 8000
open Go.RowKit

/-- Changes in memory, three cells each. -/
def ChIn (w : World) (bd : Nat) (A : Option Addr) (l : List Kv.C) : Prop :=
  0 < l.length → ∃ b off, A = some ⟨b, off, none⟩ ∧ b < bd ∧ ∀ k (h : k < l.length), w.cell? ⟨b, off + k * 3, none⟩ = some (.string (S l[k].k)) ∧ w.cell? ⟨b, off + k * 3 + 1, none⟩ = some (.string (S l[k].v)) ∧ w.cell? ⟨b, off + k * 3 + 2, none⟩ = some (.bool l[k].g)
theorem ChIn.keep {w w' : World} {bd : Nat} {A : Option Addr} {l : List Kv.C} (h : ChIn w bd A l) (hb : Below bd w w') : ChIn w' bd A l := fun hn => by
  obtain ⟨b, off, e, hlt, hc⟩ := h hn
  exact ⟨b, off, e, hlt, fun k hk => ⟨(hb.cell (p := ⟨b, off + k * 3, none⟩) hlt).trans (hc k hk).1, (hb.cell (p := ⟨b, off + k * 3 + 1, none⟩) hlt).trans (hc k hk).2.1, (hb.cell (p := ⟨b, off + k * 3 + 2, none⟩) hlt).trans (hc k hk).2.2⟩⟩
theorem ChIn.more {w : World} {bd bd' : Nat} {A : Option Addr} {l : List Kv.C} (h : ChIn w bd A l) (hb : bd ≤ bd') : ChIn w bd' A l := fun hn => by
  obtain ⟨b, off, e, hlt, hc⟩ := h hn
  exact ⟨b, off, e, Nat.lt_of_lt_of_le hlt hb, hc⟩
theorem ChIn.next {w w' : World} {A : Option Addr} {l : List Kv.C} (h : ChIn w w.heap.size A l) (hb : Below w.heap.size w w') : ChIn w' w'.heap.size A l := (h.keep hb).more hb.size
/-- What Encode tells. -/
def EncP (w : World) (r : Except Nat (List UInt8)) (e : Ending) (w' : World) : Prop :=
  Below w.heap.size w w' ∧ match r with
  | .error k => e = .returned (.tuple #[.slice none 0 0, .int .i64 (k : Int)])
  | .ok b => ∃ A c, e = .returned (.tuple #[.slice A b.length c, .int .i64 0]) ∧ Row w.heap.size w' (.slice A b.length c) b
theorem all_take_succ {l : List Kv.C} {k : Nat} (hk : k < l.length) : (l.take (k + 1)).all Kv.right = ((l.take k).all Kv.right && Kv.right l[k]) := by
  rw [List.take_succ_eq_append_getElem hk, List.all_append]
  simp
theorem encode_bad {l : List Kv.C} {k : Nat} (hk : k < l.length) (h : Kv.right l[k] = false) : Kv.encode l = .error 1 := by
  unfold Kv.encode
  rw [if_neg]
  intro ha
  have := List.all_eq_true.1 ha l[k] (List.getElem_mem hk)
  rw [h] at this
  cases this

set_option maxHeartbeats 3200000 in
theorem kvEncode_any (w : World) (A : Option Addr) (n c : Nat) (l : List Kv.C) (hn : l.length = n) (h : ChIn w w.heap.size A l) (hl : n ≤ 20000) :
    Calls Tryd.prog 63 #[.slice A n c] w (EncP w (Kv.encode l)) := by
  have HN := Lib.hid hn
  have HW := Lib.hid h
  clear hn h
  go_enter Tryd.func63, Tryd.ntmps63
  go_wp2_with fail
  go_loopw [4, 9] (fun ov iv wr => ∃ (k : Nat) (A2 : Option Addr) (m c2 : Nat), k ≤ n ∧ iv = .int .i64 (k : Int) ∧ ov = .slice A2 m c2 ∧ m = (Kv.enc (l.take k)).length ∧ Row w.heap.size wr ov (Kv.enc (l.take k)) ∧ (l.take k).all Kv.right = true ∧ Below w.heap.size w wr) (fun _ iv _ => n - (intOf iv).toNat)
  case atStart => exact ⟨0, none, 0, 0, Nat.zero_le _, rfl, rfl, rfl, World.ownsRow_nil _ _ _ _, rfl, Below.refl _ _⟩
  case round =>
    obtain ⟨k, A2, m, c2, hk, rfl, rfl, hm, hrow, hall, hb⟩ := hrel
    by_cases hlt : k < n
    · have hkl : k < l.length := by have := HN.out; omega
      obtain ⟨b, off, rfl, hbl, hc⟩ := HW.out (by omega)
      obtain ⟨c0, c1, c2'⟩ := hc k hkl
      have d0 := (hb.cell (p := ⟨b, off + k * 3, none⟩) hbl).trans c0
      have d1 := (hb.cell (p := ⟨b, off + k * 3 + 1, none⟩) hbl).trans c1
      have d2 := (hb.cell (p := ⟨b, off + k * 3 + 2, none⟩) hbl).trans c2'
      have hkI : (k : Int) < (n : Int) := by omega
      have hk0 : (0 : Int) ≤ (k : Int) := by omega
      have HET := Lib.hid (Kv.enc_take hkl)
      have HAT := Lib.hid (all_take_succ hkl)
      have HBAD := Lib.hid (encode_bad hkl)
      obtain ⟨x, hx⟩ : ∃ x, x = l[k] := ⟨_, rfl⟩
      rw [← hx] at d0 d1 d2 HET HAT HBAD
      have HROW := Lib.hid hrow
      have HB := Lib.hid hb
      have HM := Lib.hid hm
      have HALL := Lib.hid hall
      obtain ⟨wx, hwx⟩ : ∃ wx, wx = wr.alloc (.cells #[.string (S x.k), .string (S x.v), .bool x.g] 105) := ⟨_, rfl⟩
      have hbx : Below wr.heap.size wr wx := by rw [hwx]; exact (Below.refl _ _).alloc (Nat.le_refl _) _
      have hltx : wr.heap.size < wx.heap.size := by simp [hwx]
      have e0 : wx.heap[wr.heap.size]? = some (.cells #[.string (S x.k), .string (S x.v), .bool x.g] 105 (0, 0)) := by rw [hwx]; exact heap_alloc_new wr _
      have HCX : Hid (∀ w', Below wx.heap.size wx w' → w'.cell? ⟨wr.heap.size, 0, none⟩ = some (.string (S x.k)) ∧ w'.cell? ⟨wr.heap.size, 1, none⟩ = some (.string (S x.v)) ∧ w'.cell? ⟨wr.heap.size, 2, none⟩ = some (.bool x.g)) := Lib.hid (fun w' hb' => by
        have e := (hb'.block _ hltx).trans e0
        exact ⟨cell_of_row w' _ 0 _ _ _ e, cell_of_row w' _ 1 _ _ _ e, cell_of_row w' _ 2 _ _ _ e⟩)
      have HRT : Hid (Calls Tryd.prog 87 #[.agg #[.string (S x.k), .string (S x.v), .bool x.g]] wx fun e w' => e = .returned (.bool (Kv.right x)) ∧ Below wx.heap.size wx w') := Lib.hid (kvRight_any wx x)
      have HBX := Lib.hid hbx
      clear c0 c1 c2' hc hx hrow hb hm hall hbx hltx e0
      go_upto_region 5 with fail
      rw [← hwx]
      clear hwx
      obtain ⟨g0, g1, g2⟩ := HCX.out wx (Below.refl _ _)
      go_wp2_with fail
      refine HRT.out.mono ?_
      rintro _ wy ⟨rfl, hby⟩
      have HBY := Lib.hid hby
      obtain ⟨r0, r1, r2⟩ := HCX.out wy hby
      clear g0 g1 g2 hby HRT d0 d1 d2
      cases hr : Kv.right x with
      | false =>
        have HE := Lib.hid (HBAD.out hr)
        clear hr
        go_wp2_with fail
        go_ret2
        rw [HE.out]
        exact ⟨HB.out.trans ((HBX.out.trans (HBY.out.mono HBX.out.size)).mono HB.out.size), rfl⟩
      | true =>
        have HWR : Hid (Calls Tryd.prog 88 #[.agg #[.string (S x.k), .string (S x.v), .bool x.g]] wy (OwnB wy (Kv.one x))) := Lib.hid (kvWritten_any wy x hr)
        have hol := (Kv.one_len hr).2
        have HR1 := Lib.hid hr
        clear hr
        go_wp2_with fail
        refine HWR.out.mono ?_
        rintro _ wz ⟨A5, c5, rfl, hrow5, hbz⟩
        have hbz2 := (HBX.out.trans (HBY.out.mono HBX.out.size)).trans (hbz.mono (Nat.le_trans HBX.out.size HBY.out.size))
        have HROWZ := Lib.hid (own_below HROW.out hbz2 : Row w.heap.size wz (.slice A2 m c2) (Kv.enc (l.take k)))
        have HBC := Lib.hid (row_cells hrow5).bc
        have HBZ := Lib.hid (HB.out.trans (hbz2.mono HB.out.size))
        have hel := Kv.enc_len (l.take k) HALL.out
        have hkt : (l.take k).length ≤ k := by rw [List.length_take]; exact Nat.min_le_left _ _
        have HBD : Hid ((Kv.enc (l.take k)).length + (Kv.one x).length ≤ 16777216) := Lib.hid (by omega)
        clear hrow5 hbz hbz2 HWR r0 r1 r2 hel hkt
        go_wp2_with (at_builtin; refine wpList_append_bytes ?hw1 (.tmp 16) (.tmp 18) rfl w.heap.size (.slice A2 m c2) A5 c5 (Kv.one x).length (Kv.enc (l.take k)) (Kv.one x) rfl rfl rfl HROWZ.out HBC.out HBD.out HBZ.out.size ?_; rotate_right; intro v6 w6 hown6 hgrow6)
        rw [← HET.out] at hown6
        have hb6 : Below w.heap.size w w6 := HBZ.out.grown hgrow6 HBZ.out.size (fun q hq => (World.ownsRow.lt HROWZ.out q hq).1)
        obtain ⟨A6, c6, rfl, _⟩ := hown6.form
        have HR6 := Lib.hid hown6
        have HB6 := Lib.hid hb6
        clear hown6 hgrow6 hb6
        go_wp2_with fail
        go_roundw
        case rel => exact ⟨k + 1, A6, _, c6, by omega, by go_num, rfl, rfl, HR6.out, by rw [HAT.out, HALL.out, HR1.out]; rfl, HB6.out⟩
        case measure => simp [intOf]; omega
    · have hkI : ¬ (k : Int) < (n : Int) := by omega
      have hkn : l.take k = l := List.take_of_length_le (by have := HN.out; omega)
      rw [hkn] at hm hrow hall
      have HE : Hid (Kv.encode l = if 4000 < m then .error 2 else .ok (Kv.enc l)) := Lib.hid (by unfold Kv.encode; rw [if_pos hall, hm])
      have HROW := Lib.hid hrow
      have HB := Lib.hid hb
      have HM := Lib.hid hm
      clear hm hrow hall hb hkn
      by_cases h4 : 4000 < m
      · have h4I : (4000 : Int) < (m : Int) := by omega
        go_wp2_with fail
        go_ret2
        rw [HE.out, if_pos h4]
        exact ⟨HB.out, rfl⟩
      · have h4I : ¬ (4000 : Int) < (m : Int) := by omega
        go_wp2_with fail
        go_ret2
        rw [HE.out, if_neg h4]
        exact ⟨HB.out, A2, c2, by rw [HM.out]; rfl, by rw [← HM.out]; exact HROW.out⟩
end Go.Proofs.YtfceljbmdcbciaaDoor
namespace Go.Proofs.YtfceljbmdcbciaaDoor
set_option maxRecDepth 8000
open Go.RowKit

theorem Tryd.infoChange : (Tryd.prog.info? 105).map (fun i => (i.zero, i.size, i.bytes)) = some (some (.agg #[.string ⟨#[]⟩, .string ⟨#[]⟩, .bool false]), 3, 40) := by kernel_rfl
def cells3 (l : List Kv.C) : List Value := l.flatMap fun c => [.string (S c.k), .string (S c.v), .bool c.g]
theorem cells3_cons (c : Kv.C) (l : List Kv.C) : cells3 (c :: l) = .string (S c.k) :: .string (S c.v) :: .bool c.g :: cells3 l := rfl
theorem cells3_len (l : List Kv.C) : (cells3 l).length = l.length * 3 := by
  induction l with
  | nil => rfl
  | cons c l ih =>
    rw [cells3_cons, List.length_cons, List.length_cons, List.length_cons, List.length_cons, ih]
    omega
theorem cells3_append (a b : List Kv.C) : cells3 (a ++ b) = cells3 a ++ cells3 b := by simp [cells3]
theorem cells3_one (l : List Kv.C) : ∀ u ∈ cells3 l, u.oneCell' = true := by
  intro u hu
  unfold cells3 at hu
  rw [List.mem_flatMap] at hu
  obtain ⟨q, _, h⟩ := hu
  simp at h
  rcases h with rfl | rfl | rfl <;> rfl
theorem cells3_at : ∀ (l : List Kv.C) (k : Nat) (h : k < l.length), (cells3 l)[k * 3]? = some (.string (S l[k].k)) ∧ (cells3 l)[k * 3 + 1]? = some (.string (S l[k].v)) ∧ (cells3 l)[k * 3 + 2]? = some (.bool l[k].g)
  | [], k, h => absurd h (Nat.not_lt_zero _)
  | c :: l, 0, _ => ⟨rfl, rfl, rfl⟩
  | c :: l, k + 1, h => by
    obtain ⟨h1, h2, h3⟩ := cells3_at l k (by simpa using h)
    rw [cells3_cons, show (k + 1) * 3 = k * 3 + 3 by omega]
    exact ⟨h1, h2, h3⟩
/-- Changes of the call's own. -/
def ChRow (base : Nat) (w : World) (v : Value) (l : List Kv.C) : Prop := w.ownsRow base 105 3 v l.length (cells3 l)
theorem ChRow.chin {base : Nat} {w : World} {A : Option Addr} {n c : Nat} {l : List Kv.C} (h : ChRow base w (.slice A n c) l) : ChIn w w.heap.size A l := fun hn => by
  rcases h.2 with ⟨_, h0⟩ | ⟨g, cap, cur, e, hbg, hg, _⟩
  · omega
  · injection e with e1 e2 e3
    subst e1 e2 e3
    have hlt : g < w.heap.size := (Array.getElem?_eq_some_iff.1 hg).1
    refine ⟨g, 0, rfl, hlt, fun k hk => ?_⟩
    obtain ⟨h1, h2, h3⟩ := cells3_at l k hk
    have e1 := World.ownsRow.cells h (g := g) rfl _ _ h1
    have e2 := World.ownsRow.cells h (g := g) rfl _ _ h2
    have e3 := World.ownsRow.cells h (g := g) rfl _ _ h3
    rw [Addr.add_mid] at e1 e2 e3
    exact ⟨e1, e2, e3⟩
/-- append(l, c). -/
theorem step_change {W : World} {ops : Array Oper} {o : Oper} {a : Act} {K : Act → World → Prop} {Q : Exit → Act → World → Prop} {E : Prop} (hgd : o.guard = none) (s x : Operand) (base B : Nat) (v : Value) (l : List Kv.C) (c : Kv.C)
    (ho : o.op = .call { callee := .builtin .append, args := #[s, x], argTypes := #[53, 53] }) (hs : a.eval s = v) (hx : a.eval x = .slice (some ⟨B, 0, none⟩) 1 1)
    (hown : ChRow base W v l) (hB : W.heap[B]? = some (.cells #[.string (S c.k), .string (S c.v), .bool c.g] 105 (0, 0))) (hn : l.length ≤ 1048576) (hb : base ≤ W.heap.size)
    (hK : ∀ g cap W', ChRow base W' (.slice (some ⟨g, 0, none⟩) (l.length + 1) cap) (l ++ [c]) → Below base W W' → K (a.put o.dst (.slice (some ⟨g, 0, none⟩) (l.length + 1) cap)) W') :
    if Region.wanted o (yielded ops a.tmps) = true then Oper.wp Tryd.prog o a W K Q else E := by
  rw [if_pos (by simp [Region.wanted, hgd])]
  obtain ⟨i0, hi, hz0, hz1, hz2⟩ := info_parts Tryd.infoChange
  obtain ⟨g, cap, W', hr, h2, h3, h4, _⟩ := run_append_lies (P := Tryd.prog) W 53 o.type base 105 i0 _ 3 40 Tryd.underlying53 hi hz0 hz1 hz2 rfl (by omega) v l.length (cells3 l) hown ⟨B, 0, none⟩ 1 1 (cells3 [c]) rfl (World.news_of_block (cs := #[.string (S c.k), .string (S c.v), .bool c.g]) hB) (cells3_one [c]) (by omega) (by unfold maxLen; omega) (by omega) hb W.heap.size rfl
  unfold Oper.wp execOp
  simp only [ho, resolve, invoke, builtin, Sem.run_bind, Sem.run_pure, Result.andThen_ok, List.map_toArray, List.map_cons, List.map_nil, hs, hx, hr]
  refine hK g cap W' ?_ ((Below.refl _ _).grown h3 hb (fun k hk => (World.ownsRow.lt hown k hk).1))
  unfold ChRow
  rw [List.length_append, cells3_append]
  exact h2
theorem wpList_change {W : World} {ops : Array Oper} {rest : List Oper} {o : Oper} {a : Act} {Q : Exit → Act → World → Prop} (hgd : o.guard = none) (s x : Operand) (base B : Nat) (v : Value) (l : List Kv.C) (c : Kv.C)
    (ho : o.op = .call { callee := .builtin .append, args := #[s, x], argTypes := #[53, 53] }) (hs : a.eval s = v) (hx : a.eval x = .slice (some ⟨B, 0, none⟩) 1 1)
    (hown : ChRow base W v l) (hB : W.heap[B]? = some (.cells #[.string (S c.k), .string (S c.v), .bool c.g] 105 (0, 0))) (hn : l.length ≤ 1048576) (hb : base ≤ W.heap.size)
    (h : ∀ g cap W', ChRow base W' (.slice (some ⟨g, 0, none⟩) (l.length + 1) cap) (l ++ [c]) → Below base W W' → wpList Tryd.prog ops Q rest (a.put o.dst (.slice (some ⟨g, 0, none⟩) (l.length + 1) cap)) W') : wpList Tryd.prog ops Q (o :: rest) a W :=
  BigFrame.wpList_want (by simp [Region.wanted, hgd]) fun K hK => by
    have h1 := step_change (ops := ops) (K := K) (Q := Q) (E := True) hgd s x base B v l c ho hs hx hown hB hn hb (fun g cap W' h2 h3 => hK _ _ (h g cap W' h2 h3))
    rwa [if_pos (by simp [Region.wanted, hgd])] at h1
end Go.Proofs.YtfceljbmdcbciaaDoor
