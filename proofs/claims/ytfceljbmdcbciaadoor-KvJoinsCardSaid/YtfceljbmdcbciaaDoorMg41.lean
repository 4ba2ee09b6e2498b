/- append(l, m...): changes that came in, behind changes of the call's own. No condition. The chapter's example of stores comes out. Condition: the table of sums reads as its text lays it. -/
import Derived.Test.YtfceljbmdcbciaaDoorMg07
import Derived.Test.YtfceljbmdcbciaaDoorMg40
import Derived.Test.YtfceljbmdcbciaaDoorMg38
namespace Go.Proofs.YtfceljbmdcbciaaDoor
set_option maxRecDepth 8000
open Go.RowKit

theorem cells3_get {l : List Kv.C} {j : Nat} {u : Value} (h : (cells3 l)[j]? = some u) : ∃ hk : j / 3 < l.length, u = (match j % 3 with | 0 => .string (S l[j / 3].k) | 1 => .string (S l[j / 3].v) | _ => .bool l[j / 3].g) := by
  have hj : j < l.length * 3 := by rw [← cells3_len l]; exact (List.getElem?_eq_some_iff.1 h).1
  have hk : j / 3 < l.length := by omega
  refine ⟨hk, ?_⟩
  obtain ⟨h1, h2, h3⟩ := cells3_at l (j / 3) hk
  have hm : j % 3 = 0 ∨ j % 3 = 1 ∨ j % 3 = 2 := by omega
  rcases hm with hm | hm | hm
  · rw [show j / 3 * 3 = j by omega, h] at h1
    rw [hm]
    exact Option.some.inj h1
  · rw [show j / 3 * 3 + 1 = j by omega, h] at h2
    rw [hm]
    exact Option.some.inj h2
  · rw [show j / 3 * 3 + 2 = j by omega, h] at h3
    rw [hm]
    exact Option.some.inj h3
theorem chs_copy {W : World} {ops : Array Oper} {rest : List Oper} {op : Oper} {a : Act} {Q : Exit → Act → World → Prop} (hw : Region.wanted op (yielded ops a.tmps) = true) (s x : Operand) (base B : Nat) (v : Value) (A : Option Addr) (n c : Nat) (l m : List Kv.C)
    (ho : op.op = .call { callee := .builtin .append, args := #[s, x], argTypes := #[53, 53] }) (hs : a.eval s = v) (hx : a.eval x = .slice A n c) (hm : m.length = n) (hn0 : 0 < n)
    (hown : ChRow base W v l) (hc : ChIn W B A m) (hb : base ≤ W.heap.size) (hl : l.length ≤ 1000) (hn : n ≤ 1000)
    (hK : ∀ v' W', ChRow base W' v' (l ++ m) → Below base W W' → wpList Tryd.prog ops Q rest (a.put op.dst v') W') :
    wpList Tryd.prog ops Q (op :: rest) a W := by
  obtain ⟨i0, hi, hz0, hz1, hz2⟩ := info_parts Tryd.infoChange
  obtain ⟨b, off, rfl, hlt, hcc⟩ := hc (by omega)
  refine BigFrame.wpList_want hw fun K hK' => ?_
  obtain ⟨v', W', hr, h2, h3, h4, h5⟩ := run_append_own_at (P := Tryd.prog) W base 53 op.type 105 i0 _ 3 40 Tryd.underlying53 hi hz0 hz1 hz2 rfl (by omega) v l.length (cells3 l) hown ⟨b, off, none⟩ n c (cells3 m) (by rw [cells3_len, hm]) (fun j u hu => by
      obtain ⟨hk, rfl⟩ := cells3_get hu
      obtain ⟨c1, c2, c3⟩ := hcc (j / 3) hk
      rw [Addr.add_mid]
      have hq : j % 3 = 0 ∨ j % 3 = 1 ∨ j % 3 = 2 := by omega
      rcases hq with hq | hq | hq
      · rw [hq]
        rwa [show off + j / 3 * 3 = off + j by omega] at c1
      · rw [hq]
        rwa [show off + j / 3 * 3 + 1 = off + j by omega] at c2
      · rw [hq]
        rwa [show off + j / 3 * 3 + 2 = off + j by omega] at c3) (cells3_one m) (by unfold maxLen; omega) (by omega) hb
  unfold Oper.wp execOp
  simp only [ho, resolve, invoke, builtin, Sem.run_bind, Sem.run_pure, Result.andThen_ok, List.map_toArray, List.map_cons, List.map_nil, hs, hx, hr]
  refine hK' _ _ (hK v' W' ?_ ((Below.refl _ _).grown h3 hb (fun k hk => (World.ownsRow.lt hown k hk).1)))
  unfold ChRow
  rw [List.length_append, cells3_append, hm]
  exact h2
theorem chs_copy0 {W : World} {ops : Array Oper} {rest : List Oper} {op : Oper} {a : Act} {Q : Exit → Act → World → Prop} (hw : Region.wanted op (yielded ops a.tmps) = true) (s x : Operand) (base : Nat) (v : Value) (A : Option Addr) (c : Nat) (l : List Kv.C)
    (ho : op.op = .call { callee := .builtin .append, args := #[s, x], argTypes := #[53, 53] }) (hs : a.eval s = v) (hx : a.eval x = .slice A 0 c) (hown : ChRow base W v l)
    (hK : wpList Tryd.prog ops Q rest (a.put op.dst v) W) :
    wpList Tryd.prog ops Q (op :: rest) a W := by
  obtain ⟨i0, hi, hz0, hz1, hz2⟩ := info_parts Tryd.infoChange
  refine BigFrame.wpList_want hw fun K hK' => ?_
  have hr : (Builtin.append_ #[53, 53] op.type #[v, .slice A 0 c]).run Tryd.prog W = .ok v W := by
    rcases hown.2 with ⟨rfl, h0⟩ | ⟨g, cap, cur, rfl, hbg, hg, hlc, _⟩
    · cases A <;> simp [Builtin.append_, run_underlying Tryd.underlying53, sizeOf, typeInfo, hi, Builtin.lenOf, Builtin.firstCells, loadCells, loadCellsFrom]
    · have hle : l.length ≤ cap := hlc
      cases A <;> simp [Builtin.append_, run_underlying Tryd.underlying53, sizeOf, typeInfo, hi, Builtin.lenOf, Builtin.firstCells, loadCells, loadCellsFrom, storeCells, hle]
  unfold Oper.wp execOp
  simp only [ho, resolve, invoke, builtin, Sem.run_bind, Sem.run_pure, Result.andThen_ok, List.map_toArray, List.map_cons, List.map_nil, hs, hx, hr]
  exact hK' _ _ hK
end Go.Proofs.YtfceljbmdcbciaaDoor
namespace Go.Proofs.YtfceljbmdcbciaaDoor
set_option maxRecDepth 8000
open Go.RowKit

theorem chin_one {w : World} {g : Nat} {x : Kv.C} {t : TypeId} {fr : Nat × Nat} (h : w.heap[g]? = some (.cells #[.string (S x.k), .string (S x.v), .bool x.g] t fr)) : ChIn w w.heap.size (some ⟨g, 0, none⟩) [x] := fun _ =>
  ⟨g, 0, rfl, (Array.getElem?_eq_some_iff.1 h).1, fun k hk => by
    have hk0 : k = 0 := by
      have : k < 1 := hk
      omega
    subst hk0
    exact ⟨(cell_of_row w g 0 _ _ _ h).trans rfl, (cell_of_row w g 1 _ _ _ h).trans rfl, (cell_of_row w g 2 _ _ _ h).trans rfl⟩⟩
theorem chin_two {w : World} {g : Nat} {x y : Kv.C} {t : TypeId} {fr : Nat × Nat} (h : w.heap[g]? = some (.cells #[.string (S x.k), .string (S x.v), .bool x.g, .string (S y.k), .string (S y.v), .bool y.g] t fr)) : ChIn w w.heap.size (some ⟨g, 0, none⟩) [x, y] := fun _ =>
  ⟨g, 0, rfl, (Array.getElem?_eq_some_iff.1 h).1, fun k hk => by
    have hk2 : k < 2 := hk
    rcases k with _ | _ | k
    · exact ⟨(cell_of_row w g 0 _ _ _ h).trans rfl, (cell_of_row w g 1 _ _ _ h).trans rfl, (cell_of_row w g 2 _ _ _ h).trans rfl⟩
    · exact ⟨(cell_of_row w g 3 _ _ _ h).trans rfl, (cell_of_row w g 4 _ _ _ h).trans rfl, (cell_of_row w g 5 _ _ _ h).trans rfl⟩
    · omega⟩
theorem valD_inj {a b : List UInt8} (h : Kv.valD a = Kv.valD b) : a = b := by
  unfold Kv.valD at h
  injection h with h
  injection h with h _
  injection h with h
  injection h
/-- A new store's first Commit. -/
theorem kvCommit_new {w0 w : World} {P Q m c : Nat} {d d' : Dk.D} {l l' : Wl.L} {A : Option Addr} {cs : List Kv.C} {b : List UInt8} (hH : Hs w0) (hz : 0 < w0.heap.size) {w1 : World} (h : NewPost w0 P d l Q w1) (hb : Below w1.heap.size w1 w)
    (hst : d.st = []) (h4 : 4 ≤ d.n) (hg : l.gen ≤ 262143) (ha : l.area ≤ 1) (hu : l.fr.length ≤ 8191) (hm : cs.length = m) (hc : ChIn w w.heap.size A cs) (h0 : 0 < m) (hm2 : m ≤ 20000) (henc : Kv.encode cs = .ok b) (happ : Wl.append d l b = (0, d', l')) :
    Calls Tryd.prog 27 #[.pointer (some ⟨Q, 0, none⟩), .slice A m c] w fun e w' => e = .returned (.int .i64 0) ∧ ∃ (F' : Nat → Prop) (L : Nat), SK F' w' P L Q d' l' m (Kv.chs (.map []) cs) ∧ (∀ x, F' x → x < w'.heap.size) ∧ (∀ x, F' x → w0.heap.size ≤ x) ∧ w0.heap.size ≤ Q ∧ Below w0.heap.size w0 w' := by
  obtain ⟨L, N, hsk, hN, hQ, hb0⟩ := h.sk
  have hz1 := hb0.size
  have hzw := hb.size
  have hbw : Below w0.heap.size w0 w := hb0.trans (hb.mono hz1)
  refine (kvCommit_room (hH.next hbw) (hsk.keep hb) (fun x hx => by have := hx.2; omega) (fun hx => by have := hx.1; omega) hst h4 hg ha hu hm hc h0 hm2 (by omega) henc happ).mono ?_
  rintro e w' ⟨he, F', h1, h2, h3, h4⟩
  refine ⟨he, F', L, by rw [Nat.zero_add] at h1; exact h1, h2, fun x hx => ?_, hQ, hbw.trans (h4.below (base := w0.heap.size) (fun x hx => ?_) (by omega))⟩
  · rcases h3 x hx with hx | hx
    · exact hx.1
    · omega
  · rcases hx with hx | hx
    · exact hx.1
    · omega

set_option maxHeartbeats 3200000 in
theorem awake11_any (w : World) (hH : Hs w) (hz : 0 < w.heap.size) :
    Calls Tryd.prog 21 #[] w fun e w' => e = .returned (.bool true) ∧ Below w.heap.size w w' := by
  obtain ⟨d1, d2, hA1, hn1, hst1, hA2, hn2, hst2⟩ := Kv.ex_log
  obtain ⟨dn, hdn⟩ : ∃ dn, dn = Dk.new 24 := ⟨_, rfl⟩
  have HMD := Lib.hid (kvMade24_any w hH)
  rw [← hdn] at HMD hA1
  have hn24 : dn.n = 24 := by rw [hdn]; rfl
  have hst24 : dn.st = [] := by rw [hdn]; rfl
  have HH := Lib.hid hH
  have HI1 := Lib.hid (And.intro hA1 (And.intro hn1 hst1))
  have HI2 := Lib.hid (And.intro hA2 (And.intro hn2 hst2))
  have HDN := Lib.hid (And.intro hn24 hst24)
  clear hA1 hn1 hst1 hA2 hn2 hst2 hdn hn24 hst24 hH
  go_enter Tryd.func21, Tryd.ntmps21
  go_wp2_with fail
  refine HMD.out.mono ?_
  rintro e w1 ⟨P, Q, rfl, hnp⟩
  have hba : Below w1.heap.size w1 (w1.alloc (.cells #[.string (S [121]), .string (S [98]), .bool false] 105)) := (Below.refl _ _).alloc (Nat.le_refl _) _
  have hca := chin_one (x := ⟨[121], [98], false⟩) (heap_alloc_new w1 (.cells #[.string (S [121]), .string (S [98]), .bool false] 105))
  have HC1 := Lib.hid (kvCommit_new (c := 1) HH.out hz hnp hba HDN.out.2 (by rw [HDN.out.1]; decide) (by decide) (by decide) (by decide) (cs := Kv.exA) (m := 1) rfl hca (by decide) (by decide) Kv.ex_encA HI1.out.1)
  clear hnp hba hca HMD
  go_wp2_with fail
  refine HC1.out.mono ?_
  rintro e w2 ⟨rfl, F, L, hsk, hF1, hF2, hQ0, hb2⟩
  have hbb : Below w2.heap.size w2 (w2.alloc (.cells #[.string (S [120]), .string (S [97]), .bool false, .string (S [121]), .string (S []), .bool true] 105)) := (Below.refl _ _).alloc (Nat.le_refl _) _
  have hcb := chin_two (x := ⟨[120], [97], false⟩) (y := ⟨[121], [], true⟩) (heap_alloc_new w2 (.cells #[.string (S [120]), .string (S [97]), .bool false, .string (S [121]), .string (S []), .bool true] 105))
  have hz2 := hb2.size
  have hzb := hbb.size
  have hbw := hb2.trans (hbb.mono hz2)
  have HC2 := Lib.hid (kvCommit_room (c := 2) (HH.out.next hbw) (hsk.keep hbb) (fun x hx => Nat.lt_of_lt_of_le (hF1 x hx) hzb) (fun hx => by have := hF2 _ hx; omega) HI1.out.2.2 (by rw [HI1.out.2.1]; decide) (by decide) (by decide) (by rw [Fr.frame_len]; decide) (cs := Kv.exB) (m := 2) rfl hcb (by decide) (by decide) (by decide) Kv.ex_encB HI2.out.1)
  have HFF := Lib.hid (And.intro hF2 (And.intro hQ0 hbw))
  clear hsk hF1 hF2 hQ0 hb2 hbb hcb hbw HC1
  go_wp2_with fail
  refine HC2.out.mono ?_
  rintro e w3 ⟨rfl, F', hsk, hF1', hF2', ho⟩
  have hb3 : Below w.heap.size w w3 := HFF.out.2.2.trans (ho.below (base := w.heap.size) (fun x hx => by
    rcases hx with hx | hx
    · exact HFF.out.1 x hx
    · have := HFF.out.2.1; omega) (by omega))
  have HGX := Lib.hid (kvGet_any hsk [120] (by decide))
  have HGY := Lib.hid (fun (w' : World) (hb' : Below w3.heap.size w3 w') => kvGet_any (hsk.keep hb') [121] (by decide))
  have ex1 : Kv.chs (Kv.chs (.map []) Kv.exA) Kv.exB = Kv.exD := rfl
  rw [ex1] at HGX HGY
  rw [Kv.ex_x.1] at HGX
  simp only [Kv.ex_y] at HGY
  have HB3 := Lib.hid hb3
  clear hsk hF1' hF2' ho hb3 HC2 ex1
  go_wp2_with fail
  refine HGX.out.mono ?_
  rintro e w4 ⟨v, rfl, hv, hb4⟩
  have HG4 := Lib.hid (HGY.out w4 hb4)
  have hz3 := HB3.out.size
  have HB4 := Lib.hid (HB3.out.trans (hb4.mono hz3))
  have hz4 := HB4.out.size
  have hv97 : v = [97] := valD_inj (hv.symm.trans Kv.ex_x.2)
  subst hv97
  have hs97 : (S [97]).toList = [97] := by rw [Lib.toList_data]; rfl
  clear hv HGX HGY hb4
  go_wp2_with fail
  refine HG4.out.mono ?_
  rintro e w5 ⟨v5, rfl, _, hb5⟩
  have hb05 := HB4.out.trans (hb5.mono hz4)
  clear HG4
  go_wp2_with fail
  go_ret
  first
    | exact ⟨rfl, hb05⟩
    | exact ⟨ret_bool (by simp), hb05⟩
end Go.Proofs.YtfceljbmdcbciaaDoor
