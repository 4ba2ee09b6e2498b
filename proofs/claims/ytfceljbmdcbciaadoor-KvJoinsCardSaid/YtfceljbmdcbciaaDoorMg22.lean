/- What the calls Read and Bytes of package disk answer, for any disk. No condition. What the calls Sync and Crash of package disk do, for any disk. No condition. -/
import Derived.Test.YtfceljbmdcbciaaDoorMg21
namespace Go.Proofs.YtfceljbmdcbciaaDoor
set_option maxRecDepth 8000
open Go.RowKit

theorem range_blk {w : World} {a : Mm} {d : Dk.D} (h : DAt w a d) {j : Nat} (hj : j < d.n) : w.rangeAt a.k (j * 32) (bcs (Dk.blk d.kept j)) := fun q v hv => by
  have hq : q < 32 := by have := (List.getElem?_eq_some_iff.1 hv).1; rw [bcs_len, Dk.blk_len h.ok.kept hj] at this; exact this
  rw [cell_of_row w a.k (j * 32 + q) _ _ _ h.kept]
  rw [← hv]
  simp only [List.getElem?_toArray, bcs, Dk.blk, List.getElem?_map, List.getElem?_take, List.getElem?_drop]
  rw [if_pos hq, show 32 * j + q = j * 32 + q by omega]
theorem scs_get : ∀ (l : List (Nat × List UInt8)) (k : Nat) (hk : k < l.length), (∀ s ∈ l, s.2.length = 32) → ∀ (q : Nat) (v : Value), (Value.int .i64 (l[k].1 : Int) :: bcs l[k].2)[q]? = some v → (scs l)[k * 33 + q]? = some v
  | s :: r, 0, _, _, q, v, hv => by
    have e : scs (s :: r) = (.int .i64 (s.1 : Int) :: bcs s.2) ++ scs r := by simp [scs]
    rw [e, Nat.zero_mul, Nat.zero_add]
    exact (List.getElem?_append_left (List.getElem?_eq_some_iff.1 hv).1).trans hv
  | s :: r, k + 1, hk, hl, q, v, hv => by
    have ih := scs_get r k (by simpa using hk) (fun x hx => hl x (by simp [hx])) q v (by simpa using hv)
    have e : scs (s :: r) = (.int .i64 (s.1 : Int) :: bcs s.2) ++ scs r := by simp [scs]
    have hlen : (Value.int .i64 (s.1 : Int) :: bcs s.2).length = 33 := by rw [List.length_cons, bcs_len, hl s (by simp)]
    rw [e, List.getElem?_append_right (by rw [hlen]; omega), hlen, show (k + 1) * 33 + q - 33 = k * 33 + q by omega]
    exact ih
theorem range_st {w : World} {a : Mm} {d : Dk.D} (h : DAt w a d) {k : Nat} (hk : k < d.st.length) : ∃ b, a.S = some ⟨b, 0, none⟩ ∧ b < w.heap.size ∧ w.rangeAt b (k * 33) (.int .i64 (d.st[k].1 : Int) :: bcs d.st[k].2) := by
  obtain ⟨A, cap, e, _, _, hA, hblk⟩ := own_form h.st
  injection e with e1 _ _
  obtain ⟨g, hg⟩ := hA (by omega)
  rw [hg] at e1
  have hb := hblk g (by rw [hg]; simp [blkOf])
  refine ⟨g, e1, hb.2.1, fun q v hv => ?_⟩
  have := h.st.cells (g := g) (by rw [e1]; rfl) (k * 33 + q) v (scs_get d.st k hk (fun s hs => (h.ok.st s hs).2) q v hv)
  rw [Addr.add_mid, Nat.zero_add] at this
  exact this

theorem range_new (w : World) (i : Int) (l : List UInt8) : (w.alloc (.cells (cS i l) 121)).rangeAt w.heap.size 1 (bcs l) := fun q v hv => by
  rw [cell_of_row _ w.heap.size (1 + q) _ _ _ (heap_alloc_new w _)]
  rw [← hv, Nat.add_comm 1 q]
  simp [cS]
def ReadPost (w : World) (x : List UInt8) (e : Ending) (w' : World) : Prop :=
  ∃ g, e = .returned (.slice (some ⟨g, 0, none⟩) 32 32) ∧ w.heap.size ≤ g ∧ w'.heap[g]? = some (.cells (cB x) 119 (0, 0)) ∧ Below w.heap.size w w'

set_option maxHeartbeats 1600000 in
theorem read_any (w : World) (a : Mm) (d : Dk.D) (j : Nat) (h : DAt w a d) (ht : There w a) (hj : j < d.n) (hst : d.st.length ≤ 1048576) :
    Calls Tryd.prog 76 #[.pointer (some ⟨a.P, 0, none⟩), .int .i64 (j : Int)] w (ReadPost w (Dk.seen j (Dk.blk d.kept j) d.st)) := by
  have HH := has_any w a d j h
  have e1 : hasB d.n (j : Int) = true := by unfold hasB; simp; omega
  rw [e1] at HH
  obtain ⟨c0, c1, _, _⟩ := h.c
  have hn := h.ok.n
  have hj0 : (0 : Int) ≤ (j : Int) := by omega
  have hj1 : (j : Int) < (d.n : Int) := by omega
  have hR := range_blk h hj
  have HBL := Lib.hid (Dk.blk_len h.ok.kept hj)
  obtain ⟨x, hx⟩ : ∃ x, x = Dk.blk d.kept j := ⟨_, rfl⟩
  rw [← hx] at hR HBL ⊢
  clear e1 hx
  have hPl := lt_of_blk' h.disk
  have HDA := Lib.hid h
  have HTH := Lib.hid ht
  go_enter Tryd.func76, Tryd.ntmps76
  go_wp2_with fail
  refine HH.mono ?_
  rintro e w' ⟨rfl, rfl⟩
  go_wp2_with (first
    | ((with_reducible refine wpList_load_mid (op := ⟨some 18, _, _, _, _, _⟩) rfl 119 _ rfl a.k (j * 32) ?_ (bcs x) _ hR Tryd.underlying119 rfl ?_ ?_); exact rfl; exact (by rw [bcs_len, HBL.out]; exact sizeBlock))
    | (with_reducible refine wpList_alloc_z (s := 5) 119 zB zB_run ?_)
    | ((with_reducible refine wpList_store_new 119 (.tmp 5) (.tmp 18) zB (cB x) ?_ ?_ ?_ ?_ ?_ ?_); exact rfl; exact rfl; exact (by rw [cB_size, HBL.out]; exact sizeBlock); exact (by rw [cB_size, zB_size, HBL.out]); exact (cB_one _)))
  obtain ⟨g, hg⟩ : ∃ g, g = w.heap.size := ⟨_, rfl⟩
  obtain ⟨w0, hw0⟩ : ∃ w0, w0 = w.alloc (.cells (cB x) 119) := ⟨_, rfl⟩
  obtain ⟨m, hm⟩ : ∃ m, m = d.st.length := ⟨_, rfl⟩
  rw [← hg, ← hw0, ← hm]
  rw [← hm] at hst
  have HG := Lib.hid hg
  have HW0 := Lib.hid hw0
  have HM := Lib.hid hm
  clear hg hw0 hm hR c0 c1 h ht HH
  go_loopw [24] (fun iv wr => ∃ k : Nat, k ≤ m ∧ iv = .int .i64 k ∧ wr.heap[g]? = some (.cells (cB (Dk.seen j x (d.st.take k))) 119 (0, 0)) ∧ Below w.heap.size w wr) (fun iv _ => m - (intOf iv).toNat)
  case atStart => exact ⟨0, Nat.zero_le _, rfl, by rw [HW0.out, HG.out]; exact heap_alloc_new w _, by rw [HW0.out]; exact (Below.refl _ _).alloc (Nat.le_refl _) _⟩
  case round =>
    obtain ⟨k, hk, rfl, hgb, hbr⟩ := hrel
    by_cases hlt : k < m
    · have hkl : k < d.st.length := by have := HM.out; omega
      obtain ⟨b, hb, hbl, hrange⟩ := range_st HDA.out hkl
      have hrange' : wr.rangeAt b (k * 33) (.int .i64 (d.st[k].1 : Int) :: bcs d.st[k].2) := fun q v hv => (hbr.cell (p := ⟨b, k * 33 + q, none⟩) hbl).trans (hrange q v hv)
      have hl32 := (HDA.out.ok.st _ (List.getElem_mem hkl)).2
      have HSN : Hid (Dk.seen j x (d.st.take (k + 1)) = if d.st[k].1 = j then d.st[k].2 else Dk.seen j x (d.st.take k)) := Lib.hid (by rw [List.take_succ_eq_append_getElem hkl, Dk.seen_snoc])
      obtain ⟨⟨at0, y⟩, hs⟩ : ∃ s, s = d.st[k] := ⟨_, rfl⟩
      rw [← hs] at hrange' hl32 HSN
      dsimp only at hrange' hl32 HSN
      have HY := Lib.hid hl32
      obtain ⟨z, hz⟩ : ∃ z, z = Dk.seen j x (d.st.take k) := ⟨_, rfl⟩
      rw [← hz] at hgb HSN
      have HZL : Hid (z.length = 32) := Lib.hid (by rw [hz]; exact Dk.seen_ok j _ _ HBL.out (fun s hs => (HDA.out.ok.st s (List.mem_of_mem_take hs)).2))
      clear hs hl32 hrange hz hkl
      rw [hb]
      have hk0 : (0 : Int) ≤ (k : Int) := by omega
      have hkI : (k : Int) < (m : Int) := by omega
      have hc0 : (cS (at0 : Int) y)[0]? = some (.int .i64 (at0 : Int)) := rfl
      have hcs : (cS (at0 : Int) y).size = 33 := by rw [cS_size, HY.out]
      have HCS := Lib.hid hcs
      clear hcs
      have hgl : g < wr.heap.size := lt_of_blk' hgb
      have HGB := Lib.hid hgb
      clear hgb hb
      by_cases he : at0 = j
      · subst he
        rw [if_pos rfl] at HSN
        go_wp2_with (first
          | ((with_reducible refine wpList_load_mid (op := ⟨some 27, _, _, _, _, _⟩) rfl 121 _ rfl b (k * 33) ?_ (.int .i64 (at0 : Int) :: bcs y) _ hrange' Tryd.underlying121 rfl ?_ ?_); exact rfl; exact (by rw [List.length_cons, bcs_len, HY.out]; exact sizeStaged))
          | (with_reducible refine wpList_alloc_z (s := 7) 121 zS zS_run ?_)
          | ((with_reducible refine wpList_store_new 121 (.tmp 7) (.tmp 27) zS (cS at0 y) ?_ ?_ ?_ ?_ ?_ ?_); exact rfl; exact rfl; exact (by rw [HCS.out]; exact sizeStaged); exact (by rw [HCS.out]; rfl); exact (cS_one _ _))
          | ((with_reducible refine wpList_load_mid (op := ⟨some 33, _, _, _, _, _⟩) rfl 119 _ rfl wr.heap.size 1 ?_ (bcs y) _ (range_new wr at0 y) Tryd.underlying119 rfl ?_ ?_); exact rfl; exact (by rw [bcs_len, HY.out]; exact sizeBlock))
          | ((with_reducible refine wpList_store_rowTo rfl 119 (.tmp 5) (.tmp 33) rfl rfl g (cB y) ?_ ?_ 119 (cB z) ?_ ?_ ?_ (cB_one _) ?_); exact rfl; exact rfl; exact ((Below.heap_alloc wr _ g hgl).trans HGB.out); exact (by rw [cB_size, HY.out]; exact sizeBlock); exact (by rw [cB_size, cB_size, HY.out, HZL.out])))
        go_roundw
        case rel =>
          refine ⟨k + 1, by omega, by go_num, ?_, ?_⟩
          · rw [HSN.out]
            exact setRow_heap _ g _ _ _ _ ((Below.heap_alloc wr _ g hgl).trans HGB.out)
          · exact below_setRow (hbr.alloc hbr.size _) (by rw [HG.out]; exact Nat.le_refl _) _
        case measure => simp [intOf]; omega
      · rw [if_neg he] at HSN
        have he1 : ((at0 : Int) == (j : Int)) = false := by simp; omega
        have he3 : ¬ (at0 : Int) = (j : Int) := by omega
        go_wp2_with (first
          | ((with_reducible refine wpList_load_mid (op := ⟨some 27, _, _, _, _, _⟩) rfl 121 _ rfl b (k * 33) ?_ (.int .i64 (at0 : Int) :: bcs y) _ hrange' Tryd.underlying121 rfl ?_ ?_); exact rfl; exact (by rw [List.length_cons, bcs_len, HY.out]; exact sizeStaged))
          | (with_reducible refine wpList_alloc_z (s := 7) 121 zS zS_run ?_)
          | ((with_reducible refine wpList_store_new 121 (.tmp 7) (.tmp 27) zS (cS at0 y) ?_ ?_ ?_ ?_ ?_ ?_); exact rfl; exact rfl; exact (by rw [HCS.out]; exact sizeStaged); exact (by rw [HCS.out]; rfl); exact (cS_one _ _)))
        go_roundw
        case rel =>
          refine ⟨k + 1, by omega, by go_num, ?_, hbr.alloc hbr.size _⟩
          rw [HSN.out]
          exact (Below.heap_alloc wr _ g hgl).trans HGB.out
        case measure => simp [intOf]; omega
    · have hkI : ¬ (k : Int) < (m : Int) := by omega
      have HE : Hid (wr.heap[g]? = some (.cells (cB (Dk.seen j x d.st)) 119 (0, 0))) := Lib.hid (by
        have := HM.out
        rw [List.take_of_length_le (by omega)] at hgb
        exact hgb)
      clear hgb
      go_wp2_with fail
      go_ret
      exact ⟨g, rfl, by rw [HG.out]; exact Nat.le_refl _, HE.out, hbr⟩

set_option maxHeartbeats 800000 in
theorem read_none (w : World) (a : Mm) (d : Dk.D) (i : Int) (h : DAt w a d) (hi : i < 0 ∨ (d.n : Int) ≤ i) :
    Calls Tryd.prog 76 #[.pointer (some ⟨a.P, 0, none⟩), .int .i64 i] w fun e w' => e = .returned (.slice none 0 0) ∧ w = w' := by
  have HH := has_any w a d i h
  have e1 : hasB d.n i = false := by unfold hasB; simp; omega
  rw [e1] at HH
  clear e1
  go_enter Tryd.func76, Tryd.ntmps76
  go_wp2_with fail
  refine HH.mono ?_
  rintro e w' ⟨rfl, rfl⟩
  go_wp2_with fail
  go_ret
  exact ⟨rfl, rfl⟩

/-- A row of bytes of the call's own. -/
def ByRow (base : Nat) (w : World) (e : Ending) (l : List UInt8) : Prop := ∃ A cap, e = .returned (.slice A l.length cap) ∧ w.ownsRow base 5 1 (.slice A l.length cap) l.length (bcs l)
def BytesPost (w : World) (l : List UInt8) (e : Ending) (w' : World) : Prop := ByRow w.heap.size w' e l ∧ Below w.heap.size w w'
theorem take_blk {k : List UInt8} {n : Nat} (j : Nat) (_hk : k.length = 32 * n) (_hj : j < n) : k.take (32 * j) ++ Dk.blk k j = k.take (32 * (j + 1)) := by
  unfold Dk.blk
  rw [show 32 * (j + 1) = 32 * j + 32 by omega, List.take_add]

set_option maxHeartbeats 1600000 in
theorem bytes_any (w : World) (a : Mm) (d : Dk.D) (h : DAt w a d) (_ht : There w a) :
    Calls Tryd.prog 57 #[.pointer (some ⟨a.P, 0, none⟩)] w (BytesPost w d.kept) := by
  obtain ⟨i0, hi0, hz0, hz1, hz2⟩ := info_parts Tryd.infoByte
  obtain ⟨c0, _, _, _⟩ := h.c
  have hn := h.ok.n
  have hPl := lt_of_blk' h.disk
  have HDA := Lib.hid h
  obtain ⟨n, hnn⟩ : ∃ n, n = d.n := ⟨_, rfl⟩
  rw [← hnn] at c0 hn
  have HN := Lib.hid hnn
  clear hnn
  obtain ⟨w1, hmk, hown1, hgrow1⟩ := run_make_own (P := Tryd.prog) w w.heap.size 36 5 i0 _ 1 Tryd.underlying36 hi0 hz0 hz1 .i64 .i64 (n * 32) (by rw [hz2]; omega) (by unfold maxLen; omega) (Nat.le_refl _)
  rw [show ((n * 32 : Nat) : Int) = (n : Int) * 32 by omega] at hmk
  have hb1 : Below w.heap.size w w1 := (Below.refl _ _).grown hgrow1 (Nat.le_refl _) (fun _ hq => by cases hq)
  have c01 : w1.cell? ⟨a.P, 0, none⟩ = some (.slice (some ⟨a.k, 0, none⟩) n n) := (hb1.cell (p := ⟨a.P, 0, none⟩) hPl).trans c0
  have hn0 : (0 : Int) ≤ (n : Int) := by omega
  have hn1 : (n : Int) ≤ 512 := by omega
  have HB1 := Lib.hid hb1
  have HOWN1 := Lib.hid hown1
  clear hb1 hown1 hgrow1 h
  go_enter Tryd.func57, Tryd.ntmps57
  go_wp2_with fail
  clear hmk c0
  obtain ⟨g0, hg0⟩ : ∃ g0, g0 = w.heap.size := ⟨_, rfl⟩
  rw [← hg0]
  have HG0 := Lib.hid hg0
  clear hg0
  go_loopw [3, 18] (fun ov iv wr => ∃ (k : Nat) (A : Option Addr) (cap : Nat), k ≤ n ∧ iv = .int .i64 k ∧ ov = .slice A (32 * k) cap ∧ wr.ownsRow w.heap.size 5 1 ov (32 * k) (bcs (d.kept.take (32 * k))) ∧ Below w.heap.size w wr) (fun _ iv _ => n - (intOf iv).toNat)
  case atStart => exact ⟨0, some ⟨g0, 0, none⟩, n * 32, Nat.zero_le _, rfl, rfl, by rw [HG0.out]; exact HOWN1.out, HB1.out⟩
  case round =>
    obtain ⟨k, A, cap, hk, rfl, rfl, hown, hbr⟩ := hrel
    by_cases hlt : k < n
    · have hjn : k < d.n := by have := HN.out; omega
      have hkl : a.k < w.heap.size := lt_of_blk' HDA.out.kept
      have hR : wr.rangeAt a.k (k * 32) (bcs (Dk.blk d.kept k)) := fun q v hv => (hbr.cell (p := ⟨a.k, k * 32 + q, none⟩) hkl).trans (range_blk HDA.out hjn q v hv)
      have HBL := Lib.hid (Dk.blk_len HDA.out.ok.kept hjn)
      have HTK := Lib.hid (take_blk k HDA.out.ok.kept hjn)
      obtain ⟨x, hx⟩ : ∃ x, x = Dk.blk d.kept k := ⟨_, rfl⟩
      rw [← hx] at hR HBL HTK
      clear hx
      have hk0 : (0 : Int) ≤ (k : Int) := by omega
      have hkI : (k : Int) < (n : Int) := by omega
      obtain ⟨pre, hpre⟩ : ∃ pre, pre = bcs (d.kept.take (32 * k)) := ⟨_, rfl⟩
      rw [← hpre] at hown
      have HPRE := Lib.hid hpre
      clear hpre hjn
      obtain ⟨m, hm⟩ : ∃ m, m = 32 * k := ⟨_, rfl⟩
      rw [← hm] at hown ⊢
      have hm63 : m + 32 ≤ maxLen := by unfold maxLen; omega
      have hm64 : (m + 32) * 1 ≤ 140737488355328 := by omega
      have HM := Lib.hid hm
      clear hm
      have hbk := hbr.size
      have HOWN := Lib.hid hown
      clear hown
      go_wp2_with (first
        | ((with_reducible refine wpList_load_mid (op := ⟨some 21, _, _, _, _, _⟩) rfl 119 _ rfl a.k (k * 32) ?_ (bcs x) _ hR Tryd.underlying119 rfl ?_ ?_); exact rfl; exact (by rw [bcs_len, HBL.out]; exact sizeBlock))
        | (with_reducible refine wpList_alloc_z (s := 5) 119 zB zB_run ?_)
        | ((with_reducible refine wpList_store_new 119 (.tmp 5) (.tmp 21) zB (cB x) ?_ ?_ ?_ ?_ ?_ ?_); exact rfl; exact rfl; exact (by rw [cB_size, HBL.out]; exact sizeBlock); exact (by rw [cB_size, zB_size, HBL.out]); exact (cB_one _))
        | ((with_reducible refine wpList_append_gen (o := ⟨some 24, _, _, _, _, _⟩) rfl (.tmp 22) (.tmp 23) 36 rfl w.heap.size 5 i0 (.int .u8 0) 1 1 Tryd.underlying36 hi0 hz0 hz1 hz2 rfl ?_ (.slice A m cap) m pre ?_ ?_ (some ⟨wr.heap.size, 0, none⟩) 32 32 (bcs x) ?_ ?_ ?_ (bcs_one x) hm63 hm64 ?_ ?_); exact (by omega); exact rfl; exact (HOWN.out.alloc _); exact rfl; exact (by rw [bcs_len, HBL.out]); exact (fun _ => ⟨_, rfl, World.news_of_block (heap_alloc_new wr _)⟩); exact (by simp; omega); intro v2 w2 hown2 hgrow2 hat2; obtain ⟨A2, cap2, rfl, _, _, _, _⟩ := own_form hown2; clear hat2))
      have hx32 : m + 32 = 32 * (k + 1) := by have := HM.out; omega
      refine ⟨⟨k + 1, A2, cap2, by omega, by go_num, by rw [hx32], ?_, ?_⟩, by simp [intOf]; omega⟩
      · have e : bcs (d.kept.take (32 * (k + 1))) = pre ++ bcs x := by rw [← HTK.out, HPRE.out]; simp [bcs]
        rw [e, ← hx32]
        exact hown2
      · exact (hbr.alloc hbk _).grown hgrow2 (by simp; omega) (fun q hq => (World.ownsRow.lt HOWN.out q hq).1)
    · have hkI : ¬ (k : Int) < (n : Int) := by omega
      have hlen : d.kept.length = 32 * k := by rw [HDA.out.ok.kept, ← HN.out]; omega
      have HE : Hid (BytesPost w d.kept (.returned (.slice A (32 * k) cap)) wr) := Lib.hid (by
        rw [← hlen, List.take_of_length_le (Nat.le_refl _)] at hown
        refine ⟨⟨A, cap, by rw [hlen], hown⟩, hbr⟩)
      clear hown hlen
      go_wp2_with fail
      go_ret
      exact HE.out
end Go.Proofs.YtfceljbmdcbciaaDoor
namespace Go.Proofs.YtfceljbmdcbciaaDoor
set_option maxRecDepth 8000
open Go.RowKit

/-- A value of many cells goes into the middle of a row that is known whole. -/
theorem wp_store_splice {P : Program} {op : Oper} {a : Act} {w : World} {K : Act → World → Prop} {Q : Exit → Act → World → Prop} (ty : TypeId) (x y : Operand) (ho : op.op = .store ty x y) (b o : Nat) (cur : List Value) (t : TypeId) (hx : a.eval x = .pointer (some ⟨b, o, none⟩)) (cells : Array Value) (hy : a.eval y = .agg cells)
    (hg : w.heap[b]? = some (.cells cur.toArray t (0, 0))) (hfit : o + cells.size ≤ cur.length) (hi : (P.info? ty).map (·.size) = some cells.size) (h1 : cells.all (·.oneCell') = true)
    (h : K (a.put op.dst undef) (w.setRow b (splice cur o cells.toList).toArray)) : op.wp P a w K Q := by
  have hs := run_storeCells_at (P := P) b o t cells.toList 0 cur.toArray w hg (by simpa using hfit) (fun v hv => (Array.all_eq_true_iff_forall_mem.1 h1) v (by simpa using hv))
  have hv : (storeVar ty ⟨b, o, none⟩ (.agg cells)).run P w = .ok () (w.setRow b (splice cur o cells.toList).toArray) := by
    cases hq : P.info? ty with
    | none => simp [hq] at hi
    | some i =>
      have hs' : cells.size = i.size := by simp [hq] at hi; omega
      have e : w.setRow b (splice cur o cells.toList).toArray = w.setRow b (cur.toArray.toList.take (o + 0) ++ cells.toList ++ cur.toArray.toList.drop (o + 0 + cells.toList.length)).toArray := by
        simp [splice]
      rw [e]
      simp [storeVar, sizeOf, typeInfo, hq, Value.cells, hs']
      simpa [hs'] using hs
  unfold Oper.wp execOp
  simp only [ho, hx, hy, Instr.storeAt, Instr.sureAddr, Sem.run_bind, Sem.run_pure, Result.andThen_ok, hv]
  exact h
/-- copy, at an operation: a row that is known whole, a source that is some place. -/
theorem wp_copy_splice1 {P : Program} {o : Oper} {a : Act} {w : World} {K : Act → World → Prop} {Q : Exit → Act → World → Prop} (d s : Operand) (dT sT : TypeId)
    (ho : o.op = .call { callee := .builtin .copy, args := #[d, s], argTypes := #[dT, sT] }) (elem : TypeId) (hu : P.underlying dT = some (.slice elem)) (hsz : (P.info? elem).map (·.size) = some 1)
    (g off dLen dCap : Nat) (ad : Addr) (sLen sCap : Nat) (hd : a.eval d = .slice (some ⟨g, off, none⟩) dLen dCap) (hs : a.eval s = .slice (some ad) sLen sCap)
    (cur : List Value) (t : TypeId) (hg : w.heap[g]? = some (.cells cur.toArray t (0, 0))) (cs : List Value) (hn : cs.length = Nat.min sLen dLen)
    (hsrc : ∀ j v, cs[j]? = some v → w.cell? (ad.add j) = some v) (hfit : off + cs.length ≤ cur.length) (h1 : ∀ v ∈ cs, v.oneCell' = true)
    (h : K (a.put o.dst (goInt cs.length)) (w.setRow g (splice cur off cs).toArray)) : o.wp P a w K Q := by
  have hrun := run_copy_row (P := P) w dT sT o.type elem g off dLen dCap ad sLen sCap cur.toArray t cs hu hsz hg hn hsrc (by simpa using hfit) h1
  unfold Oper.wp
  simp [execOp, ho, resolve, invoke, builtin, hd, hs, hrun, Result.andThen]
  unfold splice at h
  exact h

/-- Only what is kept has changed. -/
theorem DAt.keptTo {w w' : World} {a : Mm} {d : Dk.D} (h : DAt w a d) (ht : There w a) (kp : List UInt8) (hl : kp.length = 32 * d.n) (hk : w'.heap[a.k]? = some (.cells (bcs kp).toArray 119 (0, 0))) (hs : ∀ x, x < w.heap.size → x ≠ a.k → w'.heap[x]? = w.heap[x]?) : DAt w' a { d with kept := kp } where
  ok := ⟨h.ok.n, hl, h.ok.st⟩
  disk := (hs a.P (ht.all _ ((mem_F a _).2 (.inl rfl))) h.Pk).trans h.disk
  kept := hk
  st := own_block h.st (fun b hb => hs b (ht.all b ((mem_F a _).2 (.inr (.inr (.inl hb))))) (fun e => h.kS (e ▸ hb)))
  plan := h.plan.past h.kept (by decide) hs
  cap := h.cap
  left := h.left
theorem lay_cells (kp : List UInt8) (at0 : Nat) (y : List UInt8) (q : Nat) : splice (bcs kp) (at0 * 32) (bcs (y.take q)) = bcs (Dk.lay kp (at0, y) q) := by
  rw [← bcs_splice, Nat.mul_comm]
  rfl
/-- In the middle of laying: what is kept is kp, all else of the disk as it was. -/
def Mid (w : World) (a : Mm) (d : Dk.D) (kp : List UInt8) (wr : World) : Prop := DAt wr a { d with kept := kp } ∧ There wr a ∧ Out [a.k] w wr
theorem Mid.alloc {w wr : World} {a : Mm} {d : Dk.D} {kp : List UInt8} (h : Mid w a d kp wr) (o : Obj) : Mid w a d kp (wr.alloc o) :=
  ⟨h.1.same (fun b hb => Below.heap_alloc wr o b (h.2.1.all b hb)), h.2.1.more (by simp), h.2.2.alloc o⟩
theorem Mid.drew {w wr : World} {a : Mm} {d : Dk.D} {kp : List UInt8} (h : Mid w a d kp wr) : Mid w a d kp wr.drew :=
  ⟨h.1.same (fun _ _ => rfl), ⟨h.2.1.all⟩, h.2.2.drew⟩
theorem Mid.set {w wr : World} {a : Mm} {d : Dk.D} {kp kq : List UInt8} (h : Mid w a d kp wr) (hl : kq.length = 32 * d.n) : Mid w a d kq (wr.setRow a.k (bcs kq).toArray) :=
  ⟨h.1.keptTo h.2.1 kq hl (setRow_heap wr a.k _ _ _ _ h.1.kept) (fun x _ hx => setRow_other wr a.k x _ hx), h.2.1.more (by simp),
    h.2.2.trans (G := [a.k]) ⟨rfl, rfl, rfl, by simp, fun b _ hb => setRow_other wr a.k b _ (by simpa using hb)⟩ (fun _ hx => .inl hx)⟩
theorem Mid.step {w wr : World} {a : Mm} {d : Dk.D} {kp : List UInt8} (h : Mid w a d kp wr) : Step w a { d with kept := kp } wr :=
  ⟨a, rfl, rfl, h.1, h.2.1, h.2.2.more (fun x hx => by rw [List.mem_singleton] at hx; rw [hx]; exact (mem_F a _).2 (.inr (.inl rfl))), fun _ hx => .inl hx⟩

theorem Step.via {w w1 w2 : World} {a a1 : Mm} {d2 : Dk.D} (hP : a1.P = a.P) (hk : a1.k = a.k) (ho : Out a.F w w1) (hF1 : ∀ x ∈ a1.F, x ∈ a.F ∨ w.heap.size ≤ x) (h2 : Step w1 a1 d2 w2) : Step w a d2 w2 := by
  obtain ⟨a2, p2, k2, at2, t2, o2, f2⟩ := h2
  refine ⟨a2, p2.trans hP, k2.trans hk, at2, t2, ho.trans o2 hF1, fun x hx => ?_⟩
  rcases f2 x hx with h | h
  · exact hF1 x h
  · exact .inr (Nat.le_trans ho.size h)

set_option maxHeartbeats 1600000 in
theorem sync_any (w : World) (a : Mm) (d : Dk.D) (h : DAt w a d) (ht : There w a) (hst : d.st.length ≤ 1048576) :
    Calls Tryd.prog 95 #[.pointer (some ⟨a.P, 0, none⟩)] w (ErrPost w a d.syncE d.sync) := by
  have HFA := fails_any w a d h ht
  cases hb : d.bad with
  | true =>
    have HE : Hid (∀ w', Step w a d.asked w' → ErrPost w a d.syncE d.sync (.returned (.int .i64 21)) w') := Lib.hid (fun w' hs => by
      unfold Dk.D.syncE Dk.D.sync
      rw [hb, if_pos rfl, if_pos rfl]
      exact ⟨rfl, hs⟩)
    rw [hb] at HFA
    clear hb
    go_enter Tryd.func95, Tryd.ntmps95
    go_wp2_with fail
    refine HFA.mono ?_
    rintro e w' ⟨rfl, hs⟩
    have HE2 := Lib.hid (HE.out _ hs)
    clear hs
    go_wp2
    go_ret
    exact HE2.out
  | false =>
    have HE : Hid (∀ w', Step w a { d.asked with kept := Dk.layAll d.kept d.st, st := [] } w' → ErrPost w a d.syncE d.sync (.returned (.int .i64 0)) w') := Lib.hid (fun w' hs => by
      unfold Dk.D.syncE Dk.D.sync
      rw [hb]
      exact ⟨rfl, hs⟩)
    rw [hb] at HFA
    clear hb
    have HST0 := Lib.hid (Dk.asked_st d)
    have HKE0 := Lib.hid (Dk.asked_kept d)
    rw [← HST0.out, ← HKE0.out] at HE
    rw [← HST0.out] at hst
    clear HST0 HKE0
    obtain ⟨d1, hd1⟩ : ∃ d1, d1 = d.asked := ⟨_, rfl⟩
    rw [← hd1] at HE HFA hst
    clear hd1
    go_enter Tryd.func95, Tryd.ntmps95
    go_wp2_with fail
    refine HFA.mono ?_
    rintro e w1 ⟨rfl, a1, hP1, hk1, hat1, ht1, ho1, hF1⟩
    have HFIN : Hid (∀ wr, Mid w1 a1 d1 (Dk.layAll d1.kept d1.st) wr → ErrPost w a d.syncE d.sync (.returned (.int .i64 0)) (wr.setCell ⟨a.P, 1, none⟩ (.slice none 0 0))) := Lib.hid (fun wr hm => by
      refine HE.out _ (Step.via hP1 hk1 ho1 hF1 ?_)
      rw [← hP1]
      exact Step.at ⟨hm.1, hm.2.1, hm.2.2.more (fun x hx => by rw [List.mem_singleton] at hx; rw [hx]; exact (mem_F a1 _).2 (.inr (.inl rfl)))⟩ (fun at2 t2 => step_drop at2 t2))
    have HM0 : Mid w1 a1 d1 d1.kept w1 := ⟨hat1, ht1, Out.refl _ _⟩
    have c1 := hat1.c.2.1
    rw [hP1] at c1
    have HD1 := Lib.hid hat1
    have HT1 := Lib.hid ht1
    have HP := Lib.hid hP1
    have HK := Lib.hid hk1
    obtain ⟨m, hm⟩ : ∃ m, m = d1.st.length := ⟨_, rfl⟩
    rw [← hm] at c1 hst
    have HM := Lib.hid hm
    clear hm hat1 ht1 h ht ho1 hF1 HE hk1 hP1 HFA
    obtain ⟨n, hn⟩ : ∃ n, n = d1.n := ⟨_, rfl⟩
    have hn512 : n ≤ 512 := by rw [hn]; exact HD1.out.ok.n
    have HN := Lib.hid hn
    clear hn
    go_wp2_with fail
    clear c1
    go_loopw [12] (fun iv wr => ∃ k : Nat, k ≤ m ∧ iv = .int .i64 k ∧ Mid w1 a1 d1 (Dk.layAll d1.kept (d1.st.take k)) wr) (fun iv _ => m - (intOf iv).toNat)
    case atStart => exact ⟨0, Nat.zero_le _, rfl, HM0⟩
    case round =>
      obtain ⟨k, hk, rfl, hmid⟩ := hrel
      by_cases hlt : k < m
      · have hkl : k < d1.st.length := by have := HM.out; omega
        obtain ⟨b, hb, hbl, hrange⟩ := range_st hmid.1 hkl
        have hok := HD1.out.ok.st _ (List.getElem_mem hkl)
        have HSN : Hid (Dk.layAll d1.kept (d1.st.take (k + 1)) = Dk.lay (Dk.layAll d1.kept (d1.st.take k)) d1.st[k] 32) := Lib.hid (by rw [List.take_succ_eq_append_getElem hkl, Dk.layAll_snoc])
        have hKL := Dk.layAll_ok (d1.st.take k) d1.kept HD1.out.ok.kept (fun s hs => HD1.out.ok.st s (List.mem_of_mem_take hs))
        dsimp only at hrange
        obtain ⟨⟨at0, y⟩, hs⟩ : ∃ s, s = d1.st[k] := ⟨_, rfl⟩
        rw [← hs] at hrange hok HSN
        dsimp only at hrange hok HSN
        obtain ⟨hok1, hok2⟩ := hok
        have hatn : at0 < n := by have := HN.out; omega
        have HY := Lib.hid hok2
        obtain ⟨kp, hkp⟩ : ∃ kp, kp = Dk.layAll d1.kept (d1.st.take k) := ⟨_, rfl⟩
        rw [← hkp] at hmid HSN hKL
        have HKL := Lib.hid hKL
        have hK2 : 32 * d1.n = 32 * n := by have := HN.out; omega
        have HKN := Lib.hid hK2
        have HLAY : Hid ((Dk.lay kp (at0, y) 32).length = 32 * d1.n) := Lib.hid (Dk.lay_ok 32 hKL hok1 hok2)
        clear hs hok1 hok2 hkp hkl hKL hK2
        have hbS : a1.S = some ⟨b, 0, none⟩ := hb
        rw [hbS]
        have hk0 : (0 : Int) ≤ (k : Int) := by omega
        have hkI : (k : Int) < (m : Int) := by omega
        have hat0 : (0 : Int) ≤ (at0 : Int) := by omega
        have hatI : (at0 : Int) < (n : Int) := by omega
        have hcs : (cS (at0 : Int) y).size = 33 := by rw [cS_size, HY.out]
        have HCS := Lib.hid hcs
        have HMID := Lib.hid hmid
        clear hcs hb hbS hmid
        go_wp2_with (first
          | ((with_reducible refine wpList_load_mid (op := ⟨some 15, _, _, _, _, _⟩) rfl 121 _ rfl b (k * 33) ?_ (.int .i64 (at0 : Int) :: bcs y) _ hrange Tryd.underlying121 rfl ?_ ?_); exact rfl; exact (by rw [List.length_cons, bcs_len, HY.out]; exact sizeStaged))
          | (with_reducible refine wpList_alloc_z (s := 4) 121 zS zS_run ?_)
          | ((with_reducible refine wpList_store_new 121 (.tmp 4) (.tmp 15) zS (cS at0 y) ?_ ?_ ?_ ?_ ?_ ?_); exact rfl; exact rfl; exact (by rw [HCS.out]; exact sizeStaged); exact (by rw [HCS.out]; rfl); exact (cS_one _ _)))
        clear hrange
        obtain ⟨g, hg⟩ : ∃ g, g = wr.heap.size := ⟨_, rfl⟩
        have g0 : (wr.alloc (.cells (cS at0 y) 121)).cell? ⟨g, 0, none⟩ = some (.int .i64 (at0 : Int)) := by rw [hg, cell_of_row _ wr.heap.size 0 _ _ _ (heap_alloc_new wr _)]; rfl
        have g1 : (wr.alloc (.cells (cS at0 y) 121)).rangeAt g 1 (bcs y) := by rw [hg]; exact range_new wr at0 y
        have hm2 := HMID.out.alloc (.cells (cS at0 y) 121)
        have hgk : g ≠ a1.k := by have := HMID.out.2.1.all _ ((mem_F a1 _).2 (.inr (.inl rfl))); omega
        rw [← hg]
        obtain ⟨wa, hwa⟩ : ∃ wa, wa = wr.alloc (.cells (cS at0 y) 121) := ⟨_, rfl⟩
        rw [← hwa] at g0 g1 hm2 ⊢
        have p0 := hm2.1.c.1
        have HKP := Lib.hid hm2.1.kept
        have hPk := hm2.1.Pk
        dsimp only at p0 HKP
        rw [HP.out, HK.out, ← HN.out] at p0
        rw [HK.out] at HKP hgk hPk
        rw [HP.out] at hPk
        have HM2 := Lib.hid hm2
        have HWS : Hid (wr.heap.size ≤ wa.heap.size) := Lib.hid (by rw [hwa]; simp)
        clear hwa hg hm2
        have hset : ∀ (u : Array Value) (p : Addr), p.block ≠ a.k → (wa.drew.setRow a.k u).cell? p = wa.drew.cell? p := fun u p hp => World.cell?_of_block (setRow_other wa.drew a.k p.block u hp)
        have kp0 := fun u => hset u ⟨a.P, 0, none⟩ hPk
        have kg0 := fun u => hset u ⟨g, 0, none⟩ hgk
        have kg1 := fun u q => hset u ⟨g, 1 + q, none⟩ hgk
        clear hset
        refine wp_region_held_drew (S := fun wx => wx.cell? ⟨a.P, 0, none⟩ = some (.slice (some ⟨a.k, 0, none⟩) n n) ∧ wx.cell? ⟨g, 0, none⟩ = some (.int .i64 (at0 : Int)) ∧ wx.rangeAt g 1 (bcs y)) (by kernel_rfl) ⟨p0, g0, g1⟩ (fun hHeld => ?_)
        refine wpAnyH_take (i := 0) (oi := ⟨_, _, _, _, _, _⟩) (v := .pointer (some ⟨a.P, 0, none⟩)) rfl (by kernel_rfl) (by kernel_rfl) (by kernel_rfl) (fun _ _ _ h => h) (Or.inl ⟨by rfl, by intro wx hSw; (try dsimp only at hSw); go_simp⟩) (by assumption) ?_
        simp only [Act.put, List.setIfInBounds_toArray, List.set_cons_zero, List.set_cons_succ]
        refine wpAnyH_take (i := 1) (oi := ⟨_, _, _, _, _, _⟩) (v := .pointer (some ⟨a.P, 0, none⟩)) rfl (by kernel_rfl) (by kernel_rfl) (by kernel_rfl) (fun _ _ _ h => h) (Or.inl ⟨by rfl, by intro wx hSw; (try dsimp only at hSw); go_simp⟩) (by assumption) ?_
        simp only [Act.put, List.setIfInBounds_toArray, List.set_cons_zero, List.set_cons_succ]
        refine wpAnyH_take (i := 2) (oi := ⟨_, _, _, _, _, _⟩) (v := .pointer (some ⟨a.P, 0, none⟩)) rfl (by kernel_rfl) (by kernel_rfl) (by kernel_rfl) (fun _ _ _ h => h) (Or.inl ⟨by rfl, by intro wx hSw; (try dsimp only at hSw); go_simp⟩) (by assumption) ?_
        simp only [Act.put, List.setIfInBounds_toArray, List.set_cons_zero, List.set_cons_succ]
        refine wpAnyH_take (i := 3) (oi := ⟨_, _, _, _, _, _⟩) (v := .slice (some ⟨a.k, 0, none⟩) n n) rfl (by kernel_rfl) (by kernel_rfl) (by kernel_rfl) (fun _ _ _ h => h) (Or.inl ⟨by rfl, by intro wx hSw; (try dsimp only at hSw); go_simp⟩) (by assumption) ?_
        simp only [Act.put, List.setIfInBounds_toArray, List.set_cons_zero, List.set_cons_succ]
        refine wpAnyH_take (i := 4) (oi := ⟨_, _, _, _, _, _⟩) (v := .pointer (some ⟨g, 0, none⟩)) rfl (by kernel_rfl) (by kernel_rfl) (by kernel_rfl) (fun _ _ _ h => h) (Or.inl ⟨by rfl, by intro wx hSw; (try dsimp only at hSw); go_simp⟩) (by assumption) ?_
        simp only [Act.put, List.setIfInBounds_toArray, List.set_cons_zero, List.set_cons_succ]
        refine wpAnyH_take (i := 5) (oi := ⟨_, _, _, _, _, _⟩) (v := .int .i64 (at0 : Int)) rfl (by kernel_rfl) (by kernel_rfl) (by kernel_rfl) (fun _ _ _ h => h) (Or.inl ⟨by rfl, by intro wx hSw; (try dsimp only at hSw); go_simp⟩) (by assumption) ?_
        simp only [Act.put, List.setIfInBounds_toArray, List.set_cons_zero, List.set_cons_succ]
        refine wpAnyH_take (i := 6) (oi := ⟨_, _, _, _, _, _⟩) (v := .pointer (some ⟨g, 1, none⟩)) rfl (by kernel_rfl) (by kernel_rfl) (by kernel_rfl) (fun _ _ _ h => h) (Or.inl ⟨by rfl, by intro wx hSw; (try dsimp only at hSw); go_simp⟩) (by assumption) ?_
        simp only [Act.put, List.setIfInBounds_toArray, List.set_cons_zero, List.set_cons_succ]
        refine wpAnyH_take (i := 7) (oi := ⟨_, _, _, _, _, _⟩) (v := .agg (cB y)) rfl (by kernel_rfl) (by kernel_rfl) (by kernel_rfl) (fun _ _ _ h => h) (yieldsIf_load_mid (by rfl) _ _ rfl g 1 rfl (bcs y) _ (fun _ hw => hw.2.2) Tryd.underlying119 rfl (by rw [bcs_len, HY.out]; exact sizeBlock)) (by assumption) ?_
        simp only [Act.put, List.setIfInBounds_toArray, List.set_cons_zero, List.set_cons_succ]
        refine wpAnyH_take (i := 8) (oi := ⟨_, _, _, _, _, _⟩) (v := .pointer (some ⟨a.k, at0 * 32, none⟩)) rfl (by kernel_rfl) (by kernel_rfl) (by kernel_rfl) (fun _ _ _ h => h) (Or.inl ⟨by rfl, by intro wx hSw; (try dsimp only at hSw); go_simp⟩) (by assumption) ?_
        simp only [Act.put, List.setIfInBounds_toArray, List.set_cons_zero, List.set_cons_succ]
        refine wpAnyH_ready (rs := [9]) (by kernel_rfl) (by simp) ?_
        refine AllReadyH.cons (o := ⟨_, _, _, _, _, _⟩) rfl (fun K hK => ?_) AllReadyH.nil
        rw [if_pos (by rfl)]
        refine wp_store_splice 119 _ _ rfl a.k (at0 * 32) (bcs kp) 119 rfl (cB y) rfl HKP.out (by have := HKN.out; rw [cB_size, bcs_len, HY.out, HKL.out]; omega) (by rw [cB_size, HY.out]; exact sizeBlock) (cB_one y) ?_
        refine hK.out _ _ ⟨(kp0 _).trans p0, (kg0 _).trans g0, fun q v hv => (kg1 _ _).trans (g1 q v hv)⟩ (fun hHeld => ?_)
        clear hK K
        simp only [Act.put]
        refine wpAnyH_done (by kernel_rfl) ?_ _
        clear hHeld p0 g0 g1 kp0 kg0 kg1
        have HM3 : Hid (Mid w1 a1 d1 (Dk.lay kp (at0, y) 32) (wa.drew.setRow a.k (splice (bcs kp) (at0 * 32) (cB y).toList).toArray)) := Lib.hid (by
          have e : splice (bcs kp) (at0 * 32) (cB y).toList = bcs (Dk.lay kp (at0, y) 32) := by
            rw [← lay_cells, List.take_of_length_le (by rw [HY.out]; exact Nat.le_refl _)]
            simp [cB]
          rw [e, ← HK.out]
          exact HM2.out.drew.set HLAY.out)
        go_wp2
        go_roundw
        case rel => exact ⟨k + 1, by omega, by go_num, by rw [HSN.out]; exact HM3.out⟩
        case measure => simp [intOf]; omega
      · have hkI : ¬ (k : Int) < (m : Int) := by omega
        have HMF : Hid (Mid w1 a1 d1 (Dk.layAll d1.kept d1.st) wr) := Lib.hid (by
          have := HM.out
          rw [List.take_of_length_le (by omega)] at hmid
          exact hmid)
        have HZ := Lib.hid (HFIN.out wr HMF.out)
        have c1 := HMF.out.1.c.2.1
        have f1 := HMF.out.1.fr 1
        dsimp only at c1
        rw [HP.out] at c1 f1
        clear hmid
        go_wp2_with fail
        go_ret
        exact HZ.out
end Go.Proofs.YtfceljbmdcbciaaDoor
