/- The bytes of an area of which a head tells that they are used, and Open, for any disk on which nothing is staged. How a log of package wal lies in memory, and its Open, Records, Used, Room, Gen, where nothing is staged on its disk. -/
import Derived.Test.YtfceljbmdcbciaaDoorMg28
namespace Go.Proofs.YtfceljbmdcbciaaDoor
set_option maxRecDepth 8000
open Go.RowKit

theorem take_more (kept : List UInt8) (s k : Nat) : (kept.drop (32 * s)).take (32 * k) ++ Dk.blk kept (s + k) = (kept.drop (32 * s)).take (32 * (k + 1)) := by
  unfold Dk.blk
  rw [show 32 * (k + 1) = 32 * k + 32 by omega, List.take_add, List.drop_drop, show 32 * (s + k) = 32 * s + 32 * k by omega]
def BytesAtPost (w : World) (l : List UInt8) (e : Ending) (w' : World) : Prop := ∃ A c, e = .returned (.slice A l.length c) ∧ BCells w' w'.heap.size A l ∧ l.length ≤ c ∧ c ≤ 9223372036854775807 ∧ (∀ x ∈ blkOf A, w.heap.size ≤ x ∧ x < w'.heap.size) ∧ Below w.heap.size w w'
theorem bytesAt_len {n : Nat} {kept : List UInt8} {a u : Nat} (hk : kept.length = 32 * n) (h4 : 4 ≤ n) (ha : a ≤ 1) (hu : u ≤ Wl.areaBytes n) : (Wl.bytesAt n kept a u).length = u := by
  unfold Wl.bytesAt
  have := Wl.start_le (n := n) h4 ha
  unfold Wl.areaBytes at hu
  rw [List.length_take, List.length_drop, hk]
  omega

set_option maxHeartbeats 3200000 in
theorem usedBytes_any (w : World) (P : Nat) (d : Dk.D) (g a u : Nat) (h : SD0 w P d) (hst : d.st = []) (h4 : 4 ≤ d.n) (ha : a ≤ 1) (hu : u ≤ Wl.areaBytes d.n) :
    Calls Tryd.prog 44 #[.pointer (some ⟨P, 0, none⟩), .agg #[.int .i64 (g : Int), .int .i64 (a : Int), .int .i64 (u : Int)]] w (BytesAtPost w (Wl.bytesAt d.n d.kept a u)) := by
  have hok := h.ok
  have hsl := Wl.start_le (n := d.n) h4 ha
  have hul := Wl.areaBytes_lt hok.n
  have hbl := bytesAt_len hok.kept h4 ha hu
  have HS := Lib.hid (fun (w' : World) (hb : Below w.heap.size w w') => areaStart_any (h.keep hb) (by omega) a ha)
  obtain ⟨s, hs⟩ : ∃ s, s = Wl.start d.n a := ⟨_, rfl⟩
  rw [← hs] at HS hsl
  have HR : Hid (∀ (k : Nat) (w' : World), 32 * k < u → Below w.heap.size w w' → Calls Tryd.prog 76 #[.pointer (some ⟨P, 0, none⟩), .int .i64 ((s : Int) + (k : Int))] w' (ReadPost w' (Dk.blk d.kept (s + k)))) := Lib.hid (fun k w' hk hb => by
    unfold Wl.areaBytes at hu
    have := read_sd (h.keep hb) (by rw [hst]; simp) (s + k) (by omega)
    rw [seen_nil hst] at this
    rw [show ((s : Int) + (k : Int)) = ((s + k : Nat) : Int) by omega]
    exact this)
  have HK : Hid (∀ k, 32 * k < u → (Dk.blk d.kept (s + k)).length = 32 ∧ ((d.kept.drop (32 * s)).take (32 * k)).length = 32 * k) := Lib.hid (fun k hk => by
    unfold Wl.areaBytes at hu
    refine ⟨Dk.blk_len hok.kept (by omega), ?_⟩
    rw [List.length_take, List.length_drop, hok.kept]
    omega)
  have HE : Hid (∀ k, 32 * k < u + 32 → 32 * k ≤ Wl.areaBytes d.n → ((d.kept.drop (32 * s)).take (32 * k)).length = 32 * k) := Lib.hid (fun k hk hk2 => by
    unfold Wl.areaBytes at hk2
    rw [List.length_take, List.length_drop, hok.kept]
    omega)
  have hu32 : ∃ q, Wl.areaBytes d.n = q * 32 := ⟨_, rfl⟩
  have hsn : s ≤ 512 := by have := hok.n; omega
  have HBY : Hid (Wl.bytesAt d.n d.kept a u = (d.kept.drop (32 * s)).take u) := Lib.hid (by rw [hs]; rfl)
  obtain ⟨L, hL⟩ : ∃ L, L = Wl.bytesAt d.n d.kept a u := ⟨_, rfl⟩
  rw [← hL] at HBY hbl ⊢
  obtain ⟨M, hM⟩ : ∃ M, M = d.kept.drop (32 * s) := ⟨_, rfl⟩
  have HM := Lib.hid hM
  rw [← hM] at HBY HK HE
  obtain ⟨m, hm⟩ : ∃ m, m = Wl.areaBytes d.n := ⟨_, rfl⟩
  rw [← hm] at HE hu hul hu32
  have HBL := Lib.hid hbl
  clear hs hM hL hm hok h hst h4 ha hbl
  have hb0 : Below w.heap.size w (w.alloc (.cells #[.int .i64 (g : Int), .int .i64 (a : Int), .int .i64 (u : Int)] 82)) := (Below.refl _ _).alloc (Nat.le_refl _) _
  have HSA := Lib.hid (HS.out _ hb0)
  have hh0 := heap_alloc_new w (.cells #[.int .i64 (g : Int), .int .i64 (a : Int), .int .i64 (u : Int)] 82)
  clear HS
  go_enter Tryd.func44, Tryd.ntmps44
  go_wp2_with fail
  refine HSA.out.mono ?_
  rintro _ _ ⟨rfl, rfl⟩
  obtain ⟨w0, hw0⟩ : ∃ w0, w0 = w.alloc (.cells #[.int .i64 (g : Int), .int .i64 (a : Int), .int .i64 (u : Int)] 82) := ⟨_, rfl⟩
  obtain ⟨q0, hq0⟩ : ∃ q0, q0 = w.heap.size := ⟨_, rfl⟩
  rw [← hw0] at hb0 hh0 ⊢
  rw [← hq0] at hh0
  have HQ := Lib.hid hq0
  have HB0 := Lib.hid hb0
  have HH0 := Lib.hid hh0
  rw [← hq0]
  clear hw0 hq0 hb0 hh0 HSA
  go_wp2_with fail
  go_loopw [5, 6] (fun bv iv wr => ∃ (k : Nat) (A : Option Addr) (c : Nat), 32 * k < u + 32 ∧ 32 * k ≤ m ∧ iv = .int .i64 ((s : Int) + (k : Int)) ∧ bv = .slice A (32 * k) c ∧ Row (q0 + 1) wr bv (M.take (32 * k)) ∧ Below w.heap.size w wr ∧ wr.heap[q0]? = some (.cells #[.int .i64 (g : Int), .int .i64 (a : Int), .int .i64 (u : Int)] 82 (0, 0))) (fun _ iv _ => s + 512 - (intOf iv).toNat)
  case atStart => exact ⟨0, none, 0, by omega, by omega, by simp, rfl, by rw [Nat.mul_zero, List.take_zero]; exact World.ownsRow_nil _ _ _ _, HB0.out, HH0.out⟩
  case round =>
    obtain ⟨k, A, c, hk1, hk2, rfl, rfl, hrow, hb, hq⟩ := hrel
    have c2 := cell_of_row wr q0 2 _ _ _ hq
    by_cases hlt : 32 * k < u
    · have hkI : (32 : Int) * (k : Int) < (u : Int) := by omega
      have HC := Lib.hid (HR.out k wr hlt hb)
      have HROW := Lib.hid hrow
      have HBB := Lib.hid hb
      have HQQ := Lib.hid hq
      have hl1 := (HK.out k hlt).1
      have hl2 := (HK.out k hlt).2
      have HTM : Hid (M.take (32 * k) ++ Dk.blk d.kept (s + k) = M.take (32 * (k + 1))) := Lib.hid (by rw [HM.out]; exact take_more d.kept s k)
      obtain ⟨b, hb'⟩ : ∃ b, b = Dk.blk d.kept (s + k) := ⟨_, rfl⟩
      rw [← hb'] at HC hl1 HTM
      have HL2 := Lib.hid hl2
      have HL1 := Lib.hid hl1
      clear hb' hrow hb hq hl1 hl2
      go_wp2_with fail
      refine HC.out.mono ?_
      rintro _ w2 ⟨g2, rfl, hg2s, hg2, hb2⟩
      have hrow2 : Row (q0 + 1) w2 (.slice A (32 * k) c) (M.take (32 * k)) := own_below HROW.out hb2
      have hBC : BC w2 (some ⟨g2, 0, none⟩) b := by
        have h := cB_in hg2
        exact BCells.bc (bd := w2.heap.size) h
      have hbe2 := HBB.out.trans (hb2.mono HBB.out.size)
      have hq2 := (hb2.block _ (Array.getElem?_eq_some_iff.1 HQQ.out).1).trans HQQ.out
      clear HC HROW HQQ
      go_wp2_with (at_builtin; refine wpList_append_bytes ?hw1 (.tmp 18) (.tmp 21) rfl (q0 + 1) (.slice A (32 * k) c) (some ⟨g2, 0, none⟩) 32 32 (M.take (32 * k)) b rfl HL1.out rfl hrow2 hBC (by rw [HL2.out, HL1.out]; omega) (Array.getElem?_eq_some_iff.1 hq2).1 ?_; rotate_right; intro v4 w4 hown4 hgrow4)
      rw [HTM.out] at hown4
      obtain ⟨A4, c4, rfl, _⟩ := hown4.form
      have hb4 := hbe2.grown hgrow4 hbe2.size (fun kk hk => by have := (World.ownsRow.lt hrow2 kk hk).1; have := HQ.out; omega)
      have hq4 : w4.heap[q0]? = some (.cells #[.int .i64 (g : Int), .int .i64 (a : Int), .int .i64 (u : Int)] 82 (0, 0)) := by
        rw [hgrow4.block q0 (Array.getElem?_eq_some_iff.1 hq2).1 (fun e => by have := (World.ownsRow.lt hrow2 q0 e.symm).1; omega)]
        exact hq2
      have hl4 : (M.take (32 * (k + 1))).length = 32 * (k + 1) := HE.out (k + 1) (by omega) (by obtain ⟨q, hq⟩ := hu32; omega)
      rw [hl4] at hown4 ⊢
      have HOW := Lib.hid hown4
      clear hown4 hgrow4 hrow2 hBC
      go_wp2_with fail
      go_roundw
      case rel => exact ⟨k + 1, A4, c4, by omega, by obtain ⟨q, hq⟩ := hu32; omega, by go_num, rfl, HOW.out, hb4, hq4⟩
      case measure => simp [intOf]; omega
    · have hkI : ¬ (32 : Int) * (k : Int) < (u : Int) := by omega
      have huk : u ≤ 32 * k := by omega
      have hle := HE.out k hk1 hk2
      have hcells := hrow
      have HLL : Hid (L = (M.take (32 * k)).take u) := Lib.hid (by rw [HBY.out, List.take_take, Nat.min_eq_left huk])
      have HB := Lib.hid hb
      rcases hrow.2 with ⟨hv, hn0⟩ | ⟨g1, cap, cur, hv, hbs, hg1, hnc, hcm, _⟩
      · injection hv with e1 e2 e3
        subst e1 e3
        have hu0 : u = 0 := by omega
        have hk0 : k = 0 := by omega
        subst hu0 hk0
        clear hcells hrow hb hq HK HR HE
        go_wp2_with fail
        go_ret
        refine ⟨none, 0, ?_, ?_, ?_, by omega, ?_, HB.out⟩
        · rw [HBL.out]; rfl
        · rw [HLL.out]; exact fun h => absurd h (by simp)
        · have := HBL.out; omega
        · intro x hx; simp [blkOf] at hx
      · injection hv with e1 e2 e3
        subst e1 e3
        rw [hle] at hnc
        unfold maxLen at hcm
        have huc : (u : Int) ≤ (c : Int) := by omega
        have hcells2 : Row (q0 + 1) wr (.slice (some ⟨g1, 0, none⟩) (M.take (32 * k)).length c) (M.take (32 * k)) := by rw [hle]; exact hcells
        have hBC := row_cells hcells2
        have hsub := sub_cells (a := 0) (m := u) hBC
        rw [List.drop_zero, ← HLL.out] at hsub
        have hg1lt : Hid (g1 < wr.heap.size) := Lib.hid (lt_of_blk' hg1)
        clear hcells hcells2 hrow hb hq HK HR HE hBC hg1 hle e2
        go_wp2_with fail
        go_ret
        refine ⟨some ⟨g1, 0, none⟩, c, ?_, ?_, ?_, by omega, ?_, HB.out⟩
        · rw [HBL.out]; rfl
        · exact hsub
        · rw [HBL.out]; omega
        · intro x hx
          simp [blkOf] at hx
          have := HQ.out
          have := hg1lt.out
          omega
end Go.Proofs.YtfceljbmdcbciaaDoor
namespace Go.Proofs.YtfceljbmdcbciaaDoor
set_option maxRecDepth 8000
open Go.RowKit

/-- Where a log lies: its struct, its disk, its frames. -/
structure Lm where
  L : Nat
  P : Nat
  A : Option Addr
  c : Nat
def Lm.F (m : Lm) : List Nat := m.L :: blkOf m.A
theorem mem_LF (m : Lm) (x : Nat) : x ∈ m.F ↔ x = m.L ∨ x ∈ blkOf m.A := by simp [Lm.F]
structure LAt (w : World) (m : Lm) (l : Wl.L) : Prop where
  log : w.heap[m.L]? = some (.cells #[.pointer (some ⟨m.P, 0, none⟩), .int .i64 (l.gen : Int), .int .i64 (l.area : Int), .slice m.A l.fr.length m.c] 88 (0, 0))
  fr : BCells w w.heap.size m.A l.fr
  cap : l.fr.length ≤ m.c ∧ m.c ≤ 9223372036854775807
  lt : ∀ x ∈ m.F, x < w.heap.size
theorem LAt.same {w w' : World} {m : Lm} {l : Wl.L} (h : LAt w m l) (hs : ∀ x ∈ m.F, w'.heap[x]? = w.heap[x]?) (hz : w.heap.size ≤ w'.heap.size) : LAt w' m l where
  log := (hs _ ((mem_LF m _).2 (.inl rfl))).trans h.log
  fr := cells_block h.fr (fun x hx => hs x ((mem_LF m x).2 (.inr hx))) hz
  cap := h.cap
  lt := fun x hx => Nat.lt_of_lt_of_le (h.lt x hx) hz
theorem LAt.keep {w w' : World} {m : Lm} {l : Wl.L} (h : LAt w m l) (hb : Below w.heap.size w w') : LAt w' m l := h.same (fun x hx => hb.block x (h.lt x hx)) hb.size
theorem LAt.c {w : World} {m : Lm} {l : Wl.L} (h : LAt w m l) : w.cell? ⟨m.L, 0, none⟩ = some (.pointer (some ⟨m.P, 0, none⟩)) ∧ w.cell? ⟨m.L, 1, none⟩ = some (.int .i64 (l.gen : Int)) ∧ w.cell? ⟨m.L, 2, none⟩ = some (.int .i64 (l.area : Int)) ∧ w.cell? ⟨m.L, 3, none⟩ = some (.slice m.A l.fr.length m.c) :=
  ⟨cell_of_row w _ 0 _ _ _ h.log, cell_of_row w _ 1 _ _ _ h.log, cell_of_row w _ 2 _ _ _ h.log, cell_of_row w _ 3 _ _ _ h.log⟩
def OpenPost (w : World) (P : Nat) (r : Except Nat Wl.L) (e : Ending) (w' : World) : Prop :=
  Below w.heap.size w w' ∧ match r with
  | .error k => e = .returned (.tuple #[.pointer none, .int .i64 (k : Int)])
  | .ok l => ∃ m : Lm, m.P = P ∧ e = .returned (.tuple #[.pointer (some ⟨m.L, 0, none⟩), .int .i64 0]) ∧ LAt w' m l ∧ ∀ x ∈ m.F, w.heap.size ≤ x

set_option maxHeartbeats 3200000 in
theorem walOpen_any (w : World) (P : Nat) (d : Dk.D) (hH : Hs w) (h : SD0 w P d) (hst : d.st = []) :
    Calls Tryd.prog 12 #[.pointer (some ⟨P, 0, none⟩)] w (OpenPost w P (Wl.openK d.n d.kept)) := by
  have HLN := Lib.hid (len_sd h)
  have hok := h.ok
  by_cases h4 : d.n < 4
  · have HX : Hid (Wl.openK d.n d.kept = .error 1) := Lib.hid (by unfold Wl.openK; rw [if_pos h4])
    obtain ⟨n, hn⟩ : ∃ n, n = d.n := ⟨_, rfl⟩
    rw [← hn] at HLN h4
    rw [HX.out]
    clear hok hn hst h hH HX
    have h4I : (n : Int) < 4 := by omega
    go_enter Tryd.func12, Tryd.ntmps12
    go_wp2_with fail
    refine HLN.out.mono ?_
    rintro _ _ ⟨rfl, rfl⟩
    go_wp2_with fail
    go_ret2
    exact ⟨Below.refl _ _, rfl⟩
  · have hlt := newest_lt d.n d.kept
    have hul := Wl.areaBytes_lt hok.n
    have HNW := Lib.hid (newest_any w P d hH h hst (by omega))
    obtain ⟨hd, hhd⟩ : ∃ hd, hd = Wl.newest d.n d.kept := ⟨_, rfl⟩
    rw [← hhd] at hlt HNW
    obtain ⟨g, a, u⟩ := hd
    obtain ⟨hg, ha, hu⟩ := hlt
    dsimp only at hg ha hu
    have HUB := Lib.hid (fun (w' : World) (hb : Below w.heap.size w w') => usedBytes_any w' P d g a u (h.keep hb) hst (by omega) ha hu)
    have hbl := bytesAt_len hok.kept (by omega) ha hu
    have HX : Hid (Wl.openK d.n d.kept = if (Fr.scan (Wl.bytesAt d.n d.kept a u)).2 = u then .ok ⟨g, a, Wl.bytesAt d.n d.kept a u⟩ else .error 20) := Lib.hid (by
      unfold Wl.openK
      rw [if_neg h4, ← hhd])
    obtain ⟨f, hf⟩ : ∃ f, f = Wl.bytesAt d.n d.kept a u := ⟨_, rfl⟩
    rw [← hf] at HX HUB hbl
    have hsc := Fr.scan_le f
    obtain ⟨n, hn⟩ : ∃ n, n = d.n := ⟨_, rfl⟩
    rw [← hn] at HLN h4 hu hul
    obtain ⟨R, hR⟩ : ∃ R, R = Wl.openK d.n d.kept := ⟨_, rfl⟩
    rw [← hR] at HX ⊢
    clear hR
    have HH := Lib.hid hH
    have HFL := Lib.hid hbl
    clear hok hn hst h hH hhd hf hbl
    have h4I : ¬ (n : Int) < 4 := by omega
    obtain ⟨sc, hsc2⟩ : ∃ sc, sc = (Fr.scan f).2 := ⟨_, rfl⟩
    have HSC := Lib.hid hsc2
    rw [← hsc2] at hsc HX
    clear hsc2
    have hscl : sc ≤ u := by have := HFL.out; omega
    clear hsc
    go_enter Tryd.func12, Tryd.ntmps12
    go_wp2_with fail
    refine HLN.out.mono ?_
    rintro _ _ ⟨rfl, rfl⟩
    go_wp2_with fail
    refine HNW.out.mono ?_
    rintro _ w2 ⟨rfl, hb2⟩
    have hba : Below w2.heap.size w2 (w2.alloc (.cells #[.int .i64 (g : Int), .int .i64 (a : Int), .int .i64 (u : Int)] 82)) := (Below.refl _ _).alloc (Nat.le_refl _) _
    have hbe3 := hb2.trans (hba.mono hb2.size)
    have HB2S := Lib.hid hbe3.size
    have HUB3 := Lib.hid (HUB.out _ hbe3)
    have hh3 := heap_alloc_new w2 (.cells #[.int .i64 (g : Int), .int .i64 (a : Int), .int .i64 (u : Int)] 82)
    have HB3 := Lib.hid hbe3
    have HH3 := Lib.hid hh3
    clear HUB HNW HLN hba hbe3 hh3 hb2
    unfold hd3
    go_wp2_with fail
    refine HUB3.out.mono ?_
    rintro _ w4 ⟨A, c, rfl, hbc4, hc1, hc2, hblk, hb4⟩
    have hbe4 := HB3.out.trans (hb4.mono HB3.out.size)
    have hh4 := (hb4.block _ (Array.getElem?_eq_some_iff.1 HH3.out).1).trans HH3.out
    have HFS := Lib.hid (frOk.scan A c u f w4 (HH.out.next hbe4) HFL.out hbc4 (by have := HFL.out; omega) hc2 (by omega))
    rw [HFL.out] at hc1 ⊢
    have HB4 := Lib.hid hbe4
    have HBC4 := Lib.hid hbc4
    have HBLK := Lib.hid hblk
    have HH4 := Lib.hid hh4
    obtain ⟨q, hq⟩ : ∃ q, q = w2.heap.size := ⟨_, rfl⟩
    rw [← hq] at HH4
    clear HUB3 hbe4 hh4 hb4 hbc4 hblk HB3 HH3
    go_wp2_with fail
    refine HFS.out.mono ?_
    rintro _ w5 ⟨A5, c5, m5, rfl, _, _, _, _, hb5⟩
    rw [← hq]
    clear hq
    have hh5 := (hb5.block _ (Array.getElem?_eq_some_iff.1 HH4.out).1).trans HH4.out
    have HB5 := Lib.hid (HB4.out.trans (hb5.mono HB4.out.size))
    have HBC5 : Hid (BCells w5 w5.heap.size A f) := Lib.hid ((HBC4.out.keepB hb5 (Nat.le_refl _)).moreB hb5.size)
    have hq0 := cell_of_row w5 q 0 _ _ _ hh5
    have hq1 := cell_of_row w5 q 1 _ _ _ hh5
    have hq2 := cell_of_row w5 q 2 _ _ _ hh5
    have HSZ := Lib.hid hb5.size
    rw [← HSC.out]
    clear hh5 hb5 HFS HH4
    by_cases hs : sc = u
    · have hsI : ((sc : Int) != (u : Int)) = false := by simp; omega
      have HS := Lib.hid hs
      clear hs
      go_wp2_with fail
      go_ret2
      rw [HX.out, if_pos HS.out]
      have hba : Below w5.heap.size w5 (w5.alloc (.cells #[.pointer (some ⟨P, 0, none⟩), .int .i64 (g : Int), .int .i64 (a : Int), .slice A u c] 88)) := (Below.refl _ _).alloc (Nat.le_refl _) _
      refine ⟨HB5.out.trans (hba.mono HB5.out.size), ⟨w5.heap.size, P, A, c⟩, rfl, rfl, ⟨?_, ?_, ?_, ?_⟩, ?_⟩
      · show (w5.alloc _).heap[w5.heap.size]? = _
        rw [heap_alloc_new w5 _]
        dsimp only
        rw [HFL.out]
      · exact (HBC5.out.keepB hba (Nat.le_refl _)).moreB hba.size
      · rw [HFL.out]; exact ⟨by have := hc1; omega, hc2⟩
      · intro x hx
        rcases (mem_LF _ x).1 hx with rfl | hx
        · simp
        · have := (HBLK.out x hx).2
          have := HSZ.out
          have := hba.size
          omega
      · intro x hx
        rcases (mem_LF _ x).1 hx with rfl | hx
        · exact HB5.out.size
        · have := (HBLK.out x hx).1
          have := HB2S.out
          omega
    · have hsI : ((sc : Int) != (u : Int)) = true := by simp; omega
      go_wp2_with fail
      go_ret2
      rw [HX.out, if_neg hs]
      exact ⟨HB5.out, rfl⟩
end Go.Proofs.YtfceljbmdcbciaaDoor
