/- slices.Clone of bytes, and the records of a log, for any log. The eight bytes of a head, as package wal makes them. -/
import Derived.Test.YtfceljbmdcbciaaDoorMg29
namespace Go.Proofs.YtfceljbmdcbciaaDoor
set_option maxRecDepth 8000
open Go.RowKit

set_option maxHeartbeats 800000 in
theorem cloneB_any (w : World) (ad : Addr) (c n : Nat) (l : List UInt8) (hb : BCells w w.heap.size (some ad) l) (hn : l.length = n) (hl : n ≤ 16777216) :
    Calls Tryd.prog 73 #[.slice (some ad) n c] w fun e w' => ∃ A c', e = .returned (.slice A n c') ∧ Row w.heap.size w' (.slice A n c') l ∧ Below w.heap.size w w' := by
  have HN := Lib.run_eql_slice_nil (P := Tryd.prog) w 36 5 (some ad) n c 0 0 Tryd.underlying36
  have hb0 : Below w.heap.size w (w.alloc (.cells #[] 5)) := (Below.refl _ _).alloc (Nat.le_refl _) _
  have hBC : BC (w.alloc (.cells #[] 5)) (some ad) l := (hb.below hb0).bc
  have hrow := row_none w w.heap.size (Nat.le_refl _) w.heap.size rfl
  have HNN := Lib.hid hn
  have HB0 := Lib.hid hb0
  clear hb hn hb0
  go_enter Tryd.func73, Tryd.ntmps73
  go_wp2_with (at_builtin; refine wpList_append_bytes rfl _ _ rfl w.heap.size (.slice (some ⟨w.heap.size, 0, none⟩) 0 0) (some ad) c n [] l rfl HNN.out rfl hrow hBC (by rw [HNN.out, List.length_nil]; omega) (by simp) ?_; intro v4 w4 hown4 hgrow4)
  rw [List.nil_append] at hown4
  obtain ⟨A, c', rfl, _⟩ := hown4.form
  rw [HNN.out] at hown4 ⊢
  go_ret
  exact ⟨A, c', rfl, hown4, HB0.out.grown hgrow4 (by simp) (fun k hk => (World.ownsRow.lt hrow k hk).1)⟩
theorem used_any (w : World) (m : Lm) (l : Wl.L) (h : LAt w m l) : Calls Tryd.prog 36 #[.pointer (some ⟨m.L, 0, none⟩)] w fun e w' => e = .returned (.int .i64 (l.fr.length : Int)) ∧ w = w' := by
  obtain ⟨_, _, _, c3⟩ := h.c
  go_enter Tryd.func36, Tryd.ntmps36
  go_wp2
  go_ret
  exact ⟨rfl, rfl⟩
theorem gen_any (w : World) (m : Lm) (l : Wl.L) (h : LAt w m l) : Calls Tryd.prog 38 #[.pointer (some ⟨m.L, 0, none⟩)] w fun e w' => e = .returned (.int .i64 (l.gen : Int)) ∧ w = w' := by
  obtain ⟨_, c1, _, _⟩ := h.c
  go_enter Tryd.func38, Tryd.ntmps38
  go_wp2
  go_ret
  exact ⟨rfl, rfl⟩
theorem room_any (w : World) (m : Lm) (l : Wl.L) (d : Dk.D) (h : LAt w m l) (hd : SD0 w m.P d) (h2 : 2 ≤ d.n) (hu : l.fr.length ≤ Wl.areaBytes d.n) : Calls Tryd.prog 37 #[.pointer (some ⟨m.L, 0, none⟩)] w fun e w' => e = .returned (.int .i64 (Wl.areaBytes d.n - l.fr.length : Int)) ∧ w = w' := by
  obtain ⟨c0, _, _, _⟩ := h.c
  have HAB := Lib.hid (areaBytes_any hd h2)
  have HUS := Lib.hid (used_any w m l h)
  have hlt := Wl.areaBytes_lt hd.ok.n
  obtain ⟨a, ha⟩ : ∃ a, a = Wl.areaBytes d.n := ⟨_, rfl⟩
  obtain ⟨u, hu'⟩ : ∃ u, u = l.fr.length := ⟨_, rfl⟩
  rw [← ha] at HAB hlt hu ⊢
  rw [← hu'] at HUS hu ⊢
  have hw : IntKind.i64.wrap ((a : Int) - (u : Int)) = (a : Int) - (u : Int) := IntWalk.i64_in _ (by omega)
  clear ha hu' hd h
  go_enter Tryd.func37, Tryd.ntmps37
  go_wp2_with fail
  refine HAB.out.mono ?_
  rintro _ _ ⟨rfl, rfl⟩
  go_wp2_with fail
  refine HUS.out.mono ?_
  rintro _ _ ⟨rfl, rfl⟩
  go_wp2_with fail
  go_ret
  exact ⟨rfl, rfl⟩

/-- The records that a call tells: a list of its own. -/
def RecPost (l : List (List UInt8)) (w : World) (e : Ending) (w' : World) : Prop :=
  ∃ A c m, e = .returned (.slice A m c) ∧ m = l.length ∧ LC w' w'.heap.size A l ∧ Below w.heap.size w w'
theorem rows_of (l : List UInt8) : (Fr.scan l).1.length ≤ l.length ∧ ∀ x ∈ (Fr.scan l).1, 0 < x.length ∧ x.length ≤ 4000 := by
  have h := Fr.scan_is l.length l (Nat.le_refl _)
  refine ⟨?_, fun x hx => ?_⟩
  · have h1 := Fr.total_count (Fr.scan l).1
    have h2 := Fr.scan_le l
    have h3 := h.2.2.1
    rw [Fr.frames_total] at h3
    omega
  · exact (Fr.ok_iff x).1 (List.all_eq_true.1 h.1 x hx)
/-- One of a list's cells is set to the same bytes elsewhere. -/
theorem LRow.put {base : Nat} {w : World} {A : Option Addr} {n c : Nat} {l : List (List UInt8)} {cs : List Value} (h : LRow base w A n c l cs) {k : Nat} (hk : k < l.length) {A' : Option Addr} {c' : Nat} (hx : BCells w w.heap.size A' l[k]) (hf : ∀ b ∈ blkOf A', base ≤ b ∧ b < w.heap.size ∧ b ∉ blkOf A) {g : Nat} (hg : A = some ⟨g, 0, none⟩) :
    LRow base (w.setCell ⟨g, k, none⟩ (.slice A' l[k].length c')) A n c l (cs.set k (.slice A' l[k].length c')) := by
  subst hg
  have hst := (h.row.stored k (.slice A' l[k].length c')).1
  have hz : (w.setCell ⟨g, k, none⟩ (.slice A' l[k].length c')).heap.size = w.heap.size := World.size_setCell _ _ _
  refine ⟨h.len, ?_, fun j hj => ?_⟩
  · exact hst
  · by_cases hjk : j = k
    · subst hjk
      refine ⟨A', c', ?_, ?_, fun b hb => ?_⟩
      · exact List.getElem?_set_self (by have h1 := h.row.1; have h2 := h.len; omega)
      · exact cells_block hx (fun b hb => setP_other _ _ _ _ b (fun e => (hf b hb).2.2 (by rw [e]; simp [blkOf]))) (by rw [hz]; exact Nat.le_refl _)
      · rw [hz]; exact hf b hb
    · obtain ⟨Aj, cj, e1, e2, e3⟩ := h.el j hj
      refine ⟨Aj, cj, ?_, ?_, fun b hb => ?_⟩
      · rw [List.getElem?_set_ne (fun e => hjk e.symm)]; exact e1
      · exact cells_block e2 (fun b hb => setP_other _ _ _ _ b (fun e => (e3 b hb).2.2 (by rw [e]; simp [blkOf]))) (by rw [hz]; exact Nat.le_refl _)
      · rw [hz]; exact e3 b hb

set_option maxHeartbeats 3200000 in
theorem records_any (w : World) (m : Lm) (l : Wl.L) (hH : Hs w) (h : LAt w m l) (hl : l.fr.length ≤ 16777216) :
    Calls Tryd.prog 40 #[.pointer (some ⟨m.L, 0, none⟩)] w (RecPost (Fr.scan l.fr).1 w) := by
  obtain ⟨_, _, _, c3⟩ := h.c
  have HSC := Lib.hid (scan_own m.A m.c l.fr.length l.fr w hH rfl h.fr h.cap.1 h.cap.2 hl)
  have HRO := Lib.hid (rows_of l.fr)
  obtain ⟨rs, hrs⟩ : ∃ rs, rs = (Fr.scan l.fr).1 := ⟨_, rfl⟩
  unfold ToldOwn at HSC
  rw [← hrs] at HSC HRO ⊢
  obtain ⟨sc, hsc⟩ : ∃ sc, sc = (Fr.scan l.fr).2 := ⟨_, rfl⟩
  rw [← hsc] at HSC
  obtain ⟨u, hu⟩ : ∃ u, u = l.fr.length := ⟨_, rfl⟩
  rw [← hu] at HSC HRO c3 hl
  clear hrs hsc h hH hu
  go_enter Tryd.func40, Tryd.ntmps40
  go_wp2_with fail
  refine HSC.out.mono ?_
  rintro _ w2 ⟨A, c, n, cs, rfl, hlr, hb2⟩
  have hcap := hlr.cap
  have hnl := hlr.len
  have hn16 : n ≤ 16777216 := by have := HRO.out.1; omega
  have HB2 := Lib.hid hb2
  have HLR := Lib.hid hlr
  have HNL := Lib.hid hnl
  clear hlr hb2 HSC hnl
  go_wp2_with fail
  go_loopw [17] (fun iv wr => ∃ (k : Nat) (cs' : List Value), k ≤ n ∧ iv = .int .i64 (k : Int) ∧ LRow w.heap.size wr A n c rs cs' ∧ Below w.heap.size w wr) (fun iv _ => n - (intOf iv).toNat)
  case atStart => exact ⟨0, cs, Nat.zero_le _, rfl, HLR.out, HB2.out⟩
  case round =>
    obtain ⟨k, cs', hk, rfl, hlr, hb⟩ := hrel
    by_cases hlt : k < n
    · have hkI : (k : Int) < (n : Int) := by omega
      have hk0 : (0 : Int) ≤ (k : Int) := by omega
      have hkr : k < rs.length := by have := HNL.out; omega
      obtain ⟨Ak, ck, e1, e2, e3⟩ := hlr.el k hkr
      have hx := HRO.out.2 rs[k] (List.getElem_mem hkr)
      obtain ⟨g, hg⟩ : ∃ g, A = some ⟨g, 0, none⟩ := by
        rcases hlr.row.2 with ⟨hv, h0⟩ | ⟨g, cap, cur, hv, _⟩
        · omega
        · injection hv with hv _ _
          exact ⟨g, hv⟩
      subst hg
      have hgl : g < wr.heap.size := (hlr.own g rfl).2
      have HGB := Lib.hid (hlr.own g rfl).1
      obtain ⟨xb, xo, hA', hxlt, hxc⟩ := e2 (by omega)
      have hcell : wr.cell? ⟨g, k, none⟩ = some (.slice Ak rs[k].length ck) := by
        have := hlr.row.cells (g := g) rfl k _ e1
        rwa [Addr.add_mid, Nat.zero_add] at this
      subst hA'
      have HPUT := Lib.hid (fun (w' : World) (hb' : Below wr.heap.size wr w') (A' : Option Addr) (c' : Nat) (hx' : BCells w' w'.heap.size A' rs[k]) (hf : ∀ b ∈ blkOf A', w.heap.size ≤ b ∧ b < w'.heap.size ∧ b ∉ blkOf (some ⟨g, 0, none⟩)) => LRow.put (hlr.next hb') hkr (c' := c') hx' hf rfl)
      have HFR := Lib.hid (fun (w' : World) (hb' : Below wr.heap.size wr w') => (hlr.next hb').row.frozenAt k)
      have HCL := Lib.hid (cloneB_any wr ⟨xb, xo, none⟩ ck rs[k].length rs[k] e2 rfl (by omega))
      obtain ⟨xl, hxl⟩ : ∃ xl, xl = rs[k].length := ⟨_, rfl⟩
      rw [← hxl] at hcell HCL
      have HXL := Lib.hid hxl
      have HB := Lib.hid hb
      have hxlp : 0 < xl := by omega
      clear e1 e2 e3 hlr hb hxc hx hxl
      go_wp2_with fail
      refine HCL.out.mono ?_
      rintro _ w3 ⟨A3, c3', rfl, hrow3, hb3⟩
      have hce3 : w3.cell? ⟨g, k, none⟩ = some (.slice (some ⟨xb, xo, none⟩) xl ck) := (hb3.cell (p := ⟨g, k, none⟩) hgl).trans hcell
      have hfr3 := HFR.out w3 hb3
      have hform := hrow3
      have HP3 := Lib.hid (HPUT.out w3 hb3 A3 c3' (row_cells hrow3) (fun b hb' => by
        cases A3 with
        | none => simp [blkOf] at hb'
        | some ad =>
          simp [blkOf] at hb'
          subst hb'
          have h5 := World.ownsRow.lt hrow3 ad.block rfl
          have := HB.out.size
          refine ⟨by omega, h5.2, ?_⟩
          simp [blkOf]
          omega))
      have HB3 := Lib.hid (HB.out.trans (hb3.mono HB.out.size))
      rw [← HXL.out] at HP3
      clear hrow3 hform hb3 HCL HPUT HFR
      go_wp2_with fail
      go_roundw
      case rel => exact ⟨k + 1, _, by omega, by go_num, HP3.out, HB3.out.setCell (p := ⟨g, k, none⟩) HGB.out _⟩
      case measure => simp [intOf]; omega
    · have hkI : ¬ (k : Int) < (n : Int) := by omega
      have HL := Lib.hid hlr
      have HB := Lib.hid hb
      clear hlr hb
      go_wp2_with fail
      go_ret
      exact ⟨A, c, n, rfl, HNL.out, HL.out.lc, HB.out⟩
end Go.Proofs.YtfceljbmdcbciaaDoor
namespace Go.Proofs.YtfceljbmdcbciaaDoor
set_option maxRecDepth 8000
open Go.RowKit

def OwnPost (w : World) (n : Nat) (l : List UInt8) (e : Ending) (w' : World) : Prop := ∃ A c, e = .returned (.slice A n c) ∧ Row w.heap.size w' (.slice A n c) l ∧ Below w.heap.size w w'
set_option maxHeartbeats 1600000 in
theorem headBytes_any (w : World) (g a u : Nat) (hH : Hs w) (hg : g ≤ 262143) (ha : a ≤ 1) (hu : u < 8192) :
    Calls Tryd.prog 99 #[.agg #[.int .i64 (g : Int), .int .i64 (a : Int), .int .i64 (u : Int)]] w (OwnPost w 8 (Wl.head g a u)) := by
  have hwl := Wl.word_lt hg ha hu
  obtain ⟨v, hv⟩ : ∃ v, v = Wl.word g a u := ⟨_, rfl⟩
  have HV : Hid (Wl.head g a u = Fr.be4 (Cr.sum (Fr.be4 v)) ++ Fr.be4 v) := Lib.hid (by rw [hv]; rfl)
  have hvI : (v : Int) = (g : Int) * 16384 + (a : Int) * 8192 + (u : Int) := by rw [hv]; unfold Wl.word; omega
  rw [← hv] at hwl
  have hw1 : IntKind.i64.wrap ((g : Int) * 16384) = (g : Int) * 16384 := IntWalk.i64_in _ (by omega)
  have hw2 : IntKind.i64.wrap ((a : Int) * 8192) = (a : Int) * 8192 := IntWalk.i64_in _ (by omega)
  have hw3 : IntKind.i64.wrap ((g : Int) * 16384 + (a : Int) * 8192) = (g : Int) * 16384 + (a : Int) * 8192 := IntWalk.i64_in _ (by omega)
  have hw4 : IntKind.i64.wrap ((g : Int) * 16384 + (a : Int) * 8192 + (u : Int)) = (v : Int) := by rw [← hvI]; exact IntWalk.i64_in _ (by omega)
  have hw5 : IntKind.u32.wrap (v : Int) = (v : Int) := by rw [IntKind.wrap_u32']; omega
  have HH := Lib.hid hH
  obtain ⟨w0, hw0⟩ : ∃ w0, w0 = w.alloc (.cells #[.int .i64 (g : Int), .int .i64 (a : Int), .int .i64 (u : Int)] 82) := ⟨_, rfl⟩
  have hb0 : Below w.heap.size w w0 := by rw [hw0]; exact (Below.refl _ _).alloc (Nat.le_refl _) _
  have hF1 := Lib.hid (four_any w0 v hwl)
  have HB0 := Lib.hid hb0
  have HW0 := Lib.hid hw0
  clear hv hb0 hw0
  go_enter Tryd.func99, Tryd.ntmps99
  go_wp2_with fail
  rw [← hvI, ← HW0.out]
  refine hF1.out.mono ?_
  rintro _ w1 ⟨rfl, hw1e⟩
  have hb1 : Below w0.heap.size w0 w1 := by rw [hw1e]; exact (Below.refl _ _).alloc (Nat.le_refl _) _
  have hz1 : w1.heap.size = w0.heap.size + 1 := by rw [hw1e]; simp
  have hrow1 : Row w0.heap.size w1 (.slice (some ⟨w0.heap.size, 0, none⟩) 4 4) (Fr.be4 v) := by rw [hw1e]; exact row_made w0 _ (Nat.le_refl _) _ (by simp [Fr.be4]) _ 4 rfl rfl
  obtain ⟨q1, hq1⟩ : ∃ q1, q1 = w0.heap.size := ⟨_, rfl⟩
  rw [← hq1] at hrow1 hz1 ⊢
  have hbe1 := HB0.out.trans (hb1.mono HB0.out.size)
  have hc1 := row_cells hrow1
  have HOF := Lib.hid (of_anyN (some ⟨q1, 0, none⟩) (Fr.be4 v) 4 4 w1 rfl (HH.out.next hbe1) (by omega) hc1.bc)
  obtain ⟨s, hs⟩ : ∃ s, s = Cr.sum (Fr.be4 v) := ⟨_, rfl⟩
  have hsl : s < 4294967296 := by rw [hs]; exact Cr.sum_lt _
  rw [← hs] at HOF HV
  have HF2 := Lib.hid (four_any w1 s hsl)
  have HB1 := Lib.hid hbe1
  have HC1 := Lib.hid hc1
  have HQ1 := Lib.hid (And.intro hq1 hz1)
  clear hF1 hw1e hb1 hz1 hrow1 hbe1 hc1 hs hq1 hw1 hw2 hw3 hw4 hw5
  go_wp2_with fail
  refine HOF.out.mono ?_
  rintro _ _ ⟨rfl, rfl⟩
  go_wp2_with fail
  refine HF2.out.mono ?_
  rintro _ w2 ⟨rfl, hw2e⟩
  have hb2 : Below w1.heap.size w1 w2 := by rw [hw2e]; exact (Below.refl _ _).alloc (Nat.le_refl _) _
  obtain ⟨q2, hq2⟩ : ∃ q2, q2 = w1.heap.size := ⟨_, rfl⟩
  have hrow2 : Row w.heap.size w2 (.slice (some ⟨q2, 0, none⟩) 4 4) (Fr.be4 s) := by rw [hw2e]; exact row_made w1 _ HB1.out.size _ (by simp [Fr.be4]) _ 4 hq2 rfl
  have hbe2 := HB1.out.trans (hb2.mono HB1.out.size)
  have hc2 : BC w2 (some ⟨q1, 0, none⟩) (Fr.be4 v) := (HC1.out.below hb2).bc
  have hlen2 := hbe2.size
  have HN4 : Hid ((Fr.be4 v).length = 4) := Lib.hid rfl
  rw [← hq2]
  clear hw2e hb2 hq2 HOF HF2
  go_wp2_with (at_builtin; refine wpList_append_bytes rfl _ _ rfl w.heap.size (.slice (some ⟨q2, 0, none⟩) 4 4) (some ⟨q1, 0, none⟩) 4 4 (Fr.be4 s) (Fr.be4 v) rfl HN4.out rfl hrow2 hc2 (by simp [Fr.be4]) hlen2 ?_; intro v4 w4 hown4 hgrow4)
  rw [← HV.out] at hown4
  obtain ⟨A, c', rfl, _⟩ := hown4.form
  rw [show (Wl.head g a u).length = 8 from rfl] at hown4 ⊢
  go_ret
  exact ⟨A, c', rfl, hown4, hbe2.grown hgrow4 hlen2 (fun k hk => (World.ownsRow.lt hrow2 k hk).1)⟩
end Go.Proofs.YtfceljbmdcbciaaDoor
