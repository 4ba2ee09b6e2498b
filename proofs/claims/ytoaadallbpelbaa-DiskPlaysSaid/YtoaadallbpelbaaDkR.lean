/- What the calls Read and Bytes of package disk answer, for any disk. No condition. -/
import Derived.Test.YtoaadallbpelbaaDkW
namespace Go.Proofs.Ytoaadallbpelbaa
set_option maxRecDepth 8000
open Go.RowKit

theorem range_blk {w : World} {a : Mm} {d : Dk.D} (h : DAt w a d) {j : Nat} (hj : j < d.n) : w.rangeAt a.k (j * 32) (bcs (Dk.blk d.kept j)) := fun q v hv => by
  have hq : q < 32 := by have := (List.getElem?_eq_some_iff.1 hv).1; rw [bcs_len, Dk.blk_len h.ok.kept hj] at this; exact this
  rw [cell_of_row w a.k (j * 32 + q) _ _ _ h.kept]
  rw [← hv]
  simp only [List.getElem?_toArray, bcs, Dk.blk, List.getElem?_map, List.getElem?_take, List.getElem?_drop]
  rw [if_pos hq, show 32 * j + q = j * 32 + q by omega]
theorem scs_get : ∀ (l : List (Nat × List UInt8)) (k : Nat) (hk : k < l.length), (∀ s ∈ l, s.2.length = 32) → ∀ (q : Nat) (v : Value), (Value.int .i64 (l[k].1 : Int) :: bcs l[k].2)[q]? = some v → (scs l)[k * 33 + q]? = some v
  | s :: r, 0, _, _, q, v, hv => by
    have e : scs (s :: r) = (.int .i64 (s.1 : Int) :: bcs s.2) ++ scs r := by simp [scs]
    rw [e, Nat.zero_mul, Nat.zero_add]
    exact (List.getElem?_append_left (List.getElem?_eq_some_iff.1 hv).1).trans hv
  | s :: r, k + 1, hk, hl, q, v, hv => by
    have ih := scs_get r k (by simpa using hk) (fun x hx => hl x (by simp [hx])) q v (by simpa using hv)
    have e : scs (s :: r) = (.int .i64 (s.1 : Int) :: bcs s.2) ++ scs r := by simp [scs]
    have hlen : (Value.int .i64 (s.1 : Int) :: bcs s.2).length = 33 := by rw [List.length_cons, bcs_len, hl s (by simp)]
    rw [e, List.getElem?_append_right (by rw [hlen]; omega), hlen, show (k + 1) * 33 + q - 33 = k * 33 + q by omega]
    exact ih
theorem range_st {w : World} {a : Mm} {d : Dk.D} (h : DAt w a d) {k : Nat} (hk : k < d.st.length) : ∃ b, a.S = some ⟨b, 0, none⟩ ∧ b < w.heap.size ∧ w.rangeAt b (k * 33) (.int .i64 (d.st[k].1 : Int) :: bcs d.st[k].2) := by
  obtain ⟨A, cap, e, _, _, hA, hblk⟩ := own_form h.st
  injection e with e1 _ _
  obtain ⟨g, hg⟩ := hA (by omega)
  rw [hg] at e1
  have hb := hblk g (by rw [hg]; simp [blkOf])
  refine ⟨g, e1, hb.2.1, fun q v hv => ?_⟩
  have := h.st.cells (g := g) (by rw [e1]; rfl) (k * 33 + q) v (scs_get d.st k hk (fun s hs => (h.ok.st s hs).2) q v hv)
  rw [Addr.add_mid, Nat.zero_add] at this
  exact this

theorem range_new (w : World) (i : Int) (l : List UInt8) : (w.alloc (.cells (cS i l) 68)).rangeAt w.heap.size 1 (bcs l) := fun q v hv => by
  rw [cell_of_row _ w.heap.size (1 + q) _ _ _ (heap_alloc_new w _)]
  rw [← hv, Nat.add_comm 1 q]
  simp [cS]
def ReadPost (w : World) (x : List UInt8) (e : Ending) (w' : World) : Prop :=
  ∃ g, e = .returned (.slice (some ⟨g, 0, none⟩) 32 32) ∧ w.heap.size ≤ g ∧ w'.heap[g]? = some (.cells (cB x) 66 (0, 0)) ∧ Below w.heap.size w w'

set_option maxHeartbeats 1600000 in
theorem read_any (w : World) (a : Mm) (d : Dk.D) (j : Nat) (h : DAt w a d) (ht : There w a) (hj : j < d.n) (hst : d.st.length ≤ 1048576) :
    Calls Try.prog 22 #[.pointer (some ⟨a.P, 0, none⟩), .int .i64 (j : Int)] w (ReadPost w (Dk.seen j (Dk.blk d.kept j) d.st)) := by
  have HH := has_any w a d j h
  have e1 : hasB d.n (j : Int) = true := by unfold hasB; simp; omega
  rw [e1] at HH
  obtain ⟨c0, c1, _, _⟩ := h.c
  have hn := h.ok.n
  have hj0 : (0 : Int) ≤ (j : Int) := by omega
  have hj1 : (j : Int) < (d.n : Int) := by omega
  have hR := range_blk h hj
  have HBL := Lib.hid (Dk.blk_len h.ok.kept hj)
  obtain ⟨x, hx⟩ : ∃ x, x = Dk.blk d.kept j := ⟨_, rfl⟩
  rw [← hx] at hR HBL ⊢
  clear e1 hx
  have hPl := lt_of_blk' h.disk
  have HDA := Lib.hid h
  have HTH := Lib.hid ht
  go_enter Try.func22, Try.ntmps22
  go_wp2_with fail
  refine HH.mono ?_
  rintro e w' ⟨rfl, rfl⟩
  go_wp2_with (first
    | ((with_reducible refine wpList_load_mid (op := ⟨some 18, _, _, _, _, _⟩) rfl 66 _ rfl a.k (j * 32) ?_ (bcs x) _ hR Try.underlying66 rfl ?_ ?_); exact rfl; exact (by rw [bcs_len, HBL.out]; exact sizeBlock))
    | (with_reducible refine wpList_alloc_z (s := 5) 66 zB zB_run ?_)
    | ((with_reducible refine wpList_store_new 66 (.tmp 5) (.tmp 18) zB (cB x) ?_ ?_ ?_ ?_ ?_ ?_); exact rfl; exact rfl; exact (by rw [cB_size, HBL.out]; exact sizeBlock); exact (by rw [cB_size, zB_size, HBL.out]); exact (cB_one _)))
  obtain ⟨g, hg⟩ : ∃ g, g = w.heap.size := ⟨_, rfl⟩
  obtain ⟨w0, hw0⟩ : ∃ w0, w0 = w.alloc (.cells (cB x) 66) := ⟨_, rfl⟩
  obtain ⟨m, hm⟩ : ∃ m, m = d.st.length := ⟨_, rfl⟩
  rw [← hg, ← hw0, ← hm]
  rw [← hm] at hst
  have HG := Lib.hid hg
  have HW0 := Lib.hid hw0
  have HM := Lib.hid hm
  clear hg hw0 hm hR c0 c1 h ht HH
  go_loopw [24] (fun iv wr => ∃ k : Nat, k ≤ m ∧ iv = .int .i64 k ∧ wr.heap[g]? = some (.cells (cB (Dk.seen j x (d.st.take k))) 66 (0, 0)) ∧ Below w.heap.size w wr) (fun iv _ => m - (intOf iv).toNat)
  case atStart => exact ⟨0, Nat.zero_le _, rfl, by rw [HW0.out, HG.out]; exact heap_alloc_new w _, by rw [HW0.out]; exact (Below.refl _ _).alloc (Nat.le_refl _) _⟩
  case round =>
    obtain ⟨k, hk, rfl, hgb, hbr⟩ := hrel
    by_cases hlt : k < m
    · have hkl : k < d.st.length := by have := HM.out; omega
      obtain ⟨b, hb, hbl, hrange⟩ := range_st HDA.out hkl
      have hrange' : wr.rangeAt b (k * 33) (.int .i64 (d.st[k].1 : Int) :: bcs d.st[k].2) := fun q v hv => (hbr.cell (p := ⟨b, k * 33 + q, none⟩) hbl).trans (hrange q v hv)
      have hl32 := (HDA.out.ok.st _ (List.getElem_mem hkl)).2
      have HSN : Hid (Dk.seen j x (d.st.take (k + 1)) = if d.st[k].1 = j then d.st[k].2 else Dk.seen j x (d.st.take k)) := Lib.hid (by rw [List.take_succ_eq_append_getElem hkl, Dk.seen_snoc])
      obtain ⟨⟨at0, y⟩, hs⟩ : ∃ s, s = d.st[k] := ⟨_, rfl⟩
      rw [← hs] at hrange' hl32 HSN
      dsimp only at hrange' hl32 HSN
      have HY := Lib.hid hl32
      obtain ⟨z, hz⟩ : ∃ z, z = Dk.seen j x (d.st.take k) := ⟨_, rfl⟩
      rw [← hz] at hgb HSN
      have HZL : Hid (z.length = 32) := Lib.hid (by rw [hz]; exact Dk.seen_ok j _ _ HBL.out (fun s hs => (HDA.out.ok.st s (List.mem_of_mem_take hs)).2))
      clear hs hl32 hrange hz hkl
      rw [hb]
      have hk0 : (0 : Int) ≤ (k : Int) := by omega
      have hkI : (k : Int) < (m : Int) := by omega
      have hc0 : (cS (at0 : Int) y)[0]? = some (.int .i64 (at0 : Int)) := rfl
      have hcs : (cS (at0 : Int) y).size = 33 := by rw [cS_size, HY.out]
      have HCS := Lib.hid hcs
      clear hcs
      have hgl : g < wr.heap.size := lt_of_blk' hgb
      have HGB := Lib.hid hgb
      clear hgb hb
      by_cases he : at0 = j
      · subst he
        rw [if_pos rfl] at HSN
        go_wp2_with (first
          | ((with_reducible refine wpList_load_mid (op := ⟨some 27, _, _, _, _, _⟩) rfl 68 _ rfl b (k * 33) ?_ (.int .i64 (at0 : Int) :: bcs y) _ hrange' Try.underlying68 rfl ?_ ?_); exact rfl; exact (by rw [List.length_cons, bcs_len, HY.out]; exact sizeStaged))
          | (with_reducible refine wpList_alloc_z (s := 7) 68 zS zS_run ?_)
          | ((with_reducible refine wpList_store_new 68 (.tmp 7) (.tmp 27) zS (cS at0 y) ?_ ?_ ?_ ?_ ?_ ?_); exact rfl; exact rfl; exact (by rw [HCS.out]; exact sizeStaged); exact (by rw [HCS.out]; rfl); exact (cS_one _ _))
          | ((with_reducible refine wpList_load_mid (op := ⟨some 33, _, _, _, _, _⟩) rfl 66 _ rfl wr.heap.size 1 ?_ (bcs y) _ (range_new wr at0 y) Try.underlying66 rfl ?_ ?_); exact rfl; exact (by rw [bcs_len, HY.out]; exact sizeBlock))
          | ((with_reducible refine wpList_store_rowTo rfl 66 (.tmp 5) (.tmp 33) rfl rfl g (cB y) ?_ ?_ 66 (cB z) ?_ ?_ ?_ (cB_one _) ?_); exact rfl; exact rfl; exact ((Below.heap_alloc wr _ g hgl).trans HGB.out); exact (by rw [cB_size, HY.out]; exact sizeBlock); exact (by rw [cB_size, cB_size, HY.out, HZL.out])))
        go_roundw
        case rel =>
          refine ⟨k + 1, by omega, by go_num, ?_, ?_⟩
          · rw [HSN.out]
            exact setRow_heap _ g _ _ _ _ ((Below.heap_alloc wr _ g hgl).trans HGB.out)
          · exact below_setRow (hbr.alloc hbr.size _) (by rw [HG.out]; exact Nat.le_refl _) _
        case measure => simp [intOf]; omega
      · rw [if_neg he] at HSN
        have he1 : ((at0 : Int) == (j : Int)) = false := by simp; omega
        have he3 : ¬ (at0 : Int) = (j : Int) := by omega
        go_wp2_with (first
          | ((with_reducible refine wpList_load_mid (op := ⟨some 27, _, _, _, _, _⟩) rfl 68 _ rfl b (k * 33) ?_ (.int .i64 (at0 : Int) :: bcs y) _ hrange' Try.underlying68 rfl ?_ ?_); exact rfl; exact (by rw [List.length_cons, bcs_len, HY.out]; exact sizeStaged))
          | (with_reducible refine wpList_alloc_z (s := 7) 68 zS zS_run ?_)
          | ((with_reducible refine wpList_store_new 68 (.tmp 7) (.tmp 27) zS (cS at0 y) ?_ ?_ ?_ ?_ ?_ ?_); exact rfl; exact rfl; exact (by rw [HCS.out]; exact sizeStaged); exact (by rw [HCS.out]; rfl); exact (cS_one _ _)))
        go_roundw
        case rel =>
          refine ⟨k + 1, by omega, by go_num, ?_, hbr.alloc hbr.size _⟩
          rw [HSN.out]
          exact (Below.heap_alloc wr _ g hgl).trans HGB.out
        case measure => simp [intOf]; omega
    · have hkI : ¬ (k : Int) < (m : Int) := by omega
      have HE : Hid (wr.heap[g]? = some (.cells (cB (Dk.seen j x d.st)) 66 (0, 0))) := Lib.hid (by
        have := HM.out
        rw [List.take_of_length_le (by omega)] at hgb
        exact hgb)
      clear hgb
      go_wp2_with fail
      go_ret
      exact ⟨g, rfl, by rw [HG.out]; exact Nat.le_refl _, HE.out, hbr⟩

set_option maxHeartbeats 800000 in
theorem read_none (w : World) (a : Mm) (d : Dk.D) (i : Int) (h : DAt w a d) (hi : i < 0 ∨ (d.n : Int) ≤ i) :
    Calls Try.prog 22 #[.pointer (some ⟨a.P, 0, none⟩), .int .i64 i] w fun e w' => e = .returned (.slice none 0 0) ∧ w = w' := by
  have HH := has_any w a d i h
  have e1 : hasB d.n i = false := by unfold hasB; simp; omega
  rw [e1] at HH
  clear e1
  go_enter Try.func22, Try.ntmps22
  go_wp2_with fail
  refine HH.mono ?_
  rintro e w' ⟨rfl, rfl⟩
  go_wp2_with fail
  go_ret
  exact ⟨rfl, rfl⟩

/-- A row of bytes of the call's own. -/
def ByRow (base : Nat) (w : World) (e : Ending) (l : List UInt8) : Prop := ∃ A cap, e = .returned (.slice A l.length cap) ∧ w.ownsRow base 5 1 (.slice A l.length cap) l.length (bcs l)
def BytesPost (w : World) (l : List UInt8) (e : Ending) (w' : World) : Prop := ByRow w.heap.size w' e l ∧ Below w.heap.size w w'
theorem take_blk {k : List UInt8} {n : Nat} (j : Nat) (_hk : k.length = 32 * n) (_hj : j < n) : k.take (32 * j) ++ Dk.blk k j = k.take (32 * (j + 1)) := by
  unfold Dk.blk
  rw [show 32 * (j + 1) = 32 * j + 32 by omega, List.take_add]

set_option maxHeartbeats 1600000 in
theorem bytes_any (w : World) (a : Mm) (d : Dk.D) (h : DAt w a d) (ht : There w a) :
    Calls Try.prog 24 #[.pointer (some ⟨a.P, 0, none⟩)] w (BytesPost w d.kept) := by
  obtain ⟨i0, hi0, hz0, hz1, hz2⟩ := info_parts Try.infoByte
  obtain ⟨c0, _, _, _⟩ := h.c
  have hn := h.ok.n
  have hPl := lt_of_blk' h.disk
  have HDA := Lib.hid h
  obtain ⟨n, hnn⟩ : ∃ n, n = d.n := ⟨_, rfl⟩
  rw [← hnn] at c0 hn
  have HN := Lib.hid hnn
  clear hnn
  obtain ⟨w1, hmk, hown1, hgrow1⟩ := run_make_own (P := Try.prog) w w.heap.size 29 5 i0 _ 1 Try.underlying29 hi0 hz0 hz1 .i64 .i64 (n * 32) (by rw [hz2]; omega) (by unfold maxLen; omega) (Nat.le_refl _)
  rw [show ((n * 32 : Nat) : Int) = (n : Int) * 32 by omega] at hmk
  have hb1 : Below w.heap.size w w1 := (Below.refl _ _).grown hgrow1 (Nat.le_refl _) (fun _ hq => by cases hq)
  have c01 : w1.cell? ⟨a.P, 0, none⟩ = some (.slice (some ⟨a.k, 0, none⟩) n n) := (hb1.cell (p := ⟨a.P, 0, none⟩) hPl).trans c0
  have hn0 : (0 : Int) ≤ (n : Int) := by omega
  have hn1 : (n : Int) ≤ 512 := by omega
  have HB1 := Lib.hid hb1
  have HOWN1 := Lib.hid hown1
  clear hb1 hown1 hgrow1 h
  go_enter Try.func24, Try.ntmps24
  go_wp2_with fail
  clear hmk c0
  obtain ⟨g0, hg0⟩ : ∃ g0, g0 = w.heap.size := ⟨_, rfl⟩
  rw [← hg0]
  have HG0 := Lib.hid hg0
  clear hg0
  go_loopw [3, 18] (fun ov iv wr => ∃ (k : Nat) (A : Option Addr) (cap : Nat), k ≤ n ∧ iv = .int .i64 k ∧ ov = .slice A (32 * k) cap ∧ wr.ownsRow w.heap.size 5 1 ov (32 * k) (bcs (d.kept.take (32 * k))) ∧ Below w.heap.size w wr) (fun _ iv _ => n - (intOf iv).toNat)
  case atStart => exact ⟨0, some ⟨g0, 0, none⟩, n * 32, Nat.zero_le _, rfl, rfl, by rw [HG0.out]; exact HOWN1.out, HB1.out⟩
  case round =>
    obtain ⟨k, A, cap, hk, rfl, rfl, hown, hbr⟩ := hrel
    by_cases hlt : k < n
    · have hjn : k < d.n := by have := HN.out; omega
      have hkl : a.k < w.heap.size := lt_of_blk' HDA.out.kept
      have hR : wr.rangeAt a.k (k * 32) (bcs (Dk.blk d.kept k)) := fun q v hv => (hbr.cell (p := ⟨a.k, k * 32 + q, none⟩) hkl).trans (range_blk HDA.out hjn q v hv)
      have HBL := Lib.hid (Dk.blk_len HDA.out.ok.kept hjn)
      have HTK := Lib.hid (take_blk k HDA.out.ok.kept hjn)
      obtain ⟨x, hx⟩ : ∃ x, x = Dk.blk d.kept k := ⟨_, rfl⟩
      rw [← hx] at hR HBL HTK
      clear hx
      have hk0 : (0 : Int) ≤ (k : Int) := by omega
      have hkI : (k : Int) < (n : Int) := by omega
      obtain ⟨pre, hpre⟩ : ∃ pre, pre = bcs (d.kept.take (32 * k)) := ⟨_, rfl⟩
      rw [← hpre] at hown
      have HPRE := Lib.hid hpre
      clear hpre hjn
      obtain ⟨m, hm⟩ : ∃ m, m = 32 * k := ⟨_, rfl⟩
      rw [← hm] at hown ⊢
      have hm63 : m + 32 ≤ maxLen := by unfold maxLen; omega
      have hm64 : (m + 32) * 1 ≤ 140737488355328 := by omega
      have HM := Lib.hid hm
      clear hm
      have hbk := hbr.size
      have HOWN := Lib.hid hown
      clear hown
      go_wp2_with (first
        | ((with_reducible refine wpList_load_mid (op := ⟨some 21, _, _, _, _, _⟩) rfl 66 _ rfl a.k (k * 32) ?_ (bcs x) _ hR Try.underlying66 rfl ?_ ?_); exact rfl; exact (by rw [bcs_len, HBL.out]; exact sizeBlock))
        | (with_reducible refine wpList_alloc_z (s := 5) 66 zB zB_run ?_)
        | ((with_reducible refine wpList_store_new 66 (.tmp 5) (.tmp 21) zB (cB x) ?_ ?_ ?_ ?_ ?_ ?_); exact rfl; exact rfl; exact (by rw [cB_size, HBL.out]; exact sizeBlock); exact (by rw [cB_size, zB_size, HBL.out]); exact (cB_one _))
        | ((with_reducible refine wpList_append_gen (o := ⟨some 24, _, _, _, _, _⟩) rfl (.tmp 22) (.tmp 23) 29 rfl w.heap.size 5 i0 (.int .u8 0) 1 1 Try.underlying29 hi0 hz0 hz1 hz2 rfl ?_ (.slice A m cap) m pre ?_ ?_ (some ⟨wr.heap.size, 0, none⟩) 32 32 (bcs x) ?_ ?_ ?_ (bcs_one x) hm63 hm64 ?_ ?_); exact (by omega); exact rfl; exact (HOWN.out.alloc _); exact rfl; exact (by rw [bcs_len, HBL.out]); exact (fun _ => ⟨_, rfl, World.news_of_block (heap_alloc_new wr _)⟩); exact (by simp; omega); intro v2 w2 hown2 hgrow2 hat2; obtain ⟨A2, cap2, rfl, _, _, _, _⟩ := own_form hown2; clear hat2))
      have hx32 : m + 32 = 32 * (k + 1) := by have := HM.out; omega
      refine ⟨⟨k + 1, A2, cap2, by omega, by go_num, by rw [hx32], ?_, ?_⟩, by simp [intOf]; omega⟩
      · have e : bcs (d.kept.take (32 * (k + 1))) = pre ++ bcs x := by rw [← HTK.out, HPRE.out]; simp [bcs]
        rw [e, ← hx32]
        exact hown2
      · exact (hbr.alloc hbk _).grown hgrow2 (by simp; omega) (fun q hq => (World.ownsRow.lt HOWN.out q hq).1)
    · have hkI : ¬ (k : Int) < (n : Int) := by omega
      have hlen : d.kept.length = 32 * k := by rw [HDA.out.ok.kept, ← HN.out]; omega
      have HE : Hid (BytesPost w d.kept (.returned (.slice A (32 * k) cap)) wr) := Lib.hid (by
        rw [← hlen, List.take_of_length_le (Nat.le_refl _)] at hown
        refine ⟨⟨A, cap, by rw [hlen], hown⟩, hbr⟩)
      clear hown hlen
      go_wp2_with fail
      go_ret
      exact HE.out
end Go.Proofs.Ytoaadallbpelbaa
