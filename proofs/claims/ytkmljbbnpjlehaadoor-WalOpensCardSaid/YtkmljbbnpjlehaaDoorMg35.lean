/- The document's own Read of a block, with the room of what it tells. No condition. What Records tells lies in blocks of its own. Condition: the table of sums reads as its text lays it. -/
import Derived.Test.YtkmljbbnpjlehaaDoorMg20
import Derived.Test.YtkmljbbnpjlehaaDoorMg25
import Derived.Test.YtkmljbbnpjlehaaDoorMg33
namespace Go.Proofs.YtkmljbbnpjlehaaDoor
set_option maxRecDepth 8000
open Go.RowKit

set_option maxHeartbeats 1600000 in
theorem ref_read_cap (w : World) (b : Rm) (d : Dk.D) (j : Nat) (h : RAt w b d) (_ht : RThere w b) (hj : j < d.n) (hst : d.st.length ≤ 1048576) :
    Calls Tryd.prog 63 #[.pointer (some ⟨b.P, 0, none⟩), .int .i64 (j : Int)] w fun e w' => (∃ A c, e = .returned (.slice A 32 c) ∧ 32 ≤ c ∧ BIn w A (Dk.seen j (Dk.blk d.kept j) d.st)) ∧ w = w' := by
  have HLN := ref_len_any w b d h
  have p1 := h.c.2.1
  have p0 := h.c.1
  have hn := h.ok.n
  obtain ⟨N, hN⟩ : ∃ N, N = d.n := ⟨_, rfl⟩
  obtain ⟨L, hL⟩ : ∃ L, L = d.kept.length := ⟨_, rfl⟩
  obtain ⟨m, hm⟩ : ∃ m, m = d.st.length := ⟨_, rfl⟩
  have hLn : L = 32 * N := by rw [hL, hN]; exact h.ok.kept
  rw [← hN] at HLN hn
  rw [← hL] at p0
  rw [← hm] at p1 hst
  obtain ⟨K', cap', eK, hcapn, hcapm, hKs, hKb⟩ := own_form h.kept
  injection eK with eK1 eKn eK2
  obtain ⟨gk, hgk⟩ := hKs (by omega)
  have hbK : b.K = some ⟨gk, 0, none⟩ := by rw [eK1, hgk]
  rw [hbK] at p0
  have hjN : j < N := by rw [hN]; exact hj
  obtain ⟨cK, hcK⟩ : ∃ cK, cK = b.cK := ⟨_, rfl⟩
  rw [← hcK] at p0
  have hcKL : L ≤ cK := by rw [hcK, eK2, hL]; exact hcapn
  have hcKm : cK ≤ 9223372036854775807 := by rw [hcK, eK2]; unfold maxLen at hcapm; omega
  obtain ⟨j32, hj32⟩ : ∃ x, x = 32 * j := ⟨_, rfl⟩
  obtain ⟨j64, hj64⟩ : ∃ x, x = j32 + 32 := ⟨_, rfl⟩
  have HB0 : Hid (BIn w (some ⟨gk, j32, none⟩) (Dk.blk d.kept j)) := Lib.hid (fun _ => ⟨gk, j32, rfl, (hKb gk (by rw [hgk]; simp [blkOf])).2.1, fun k hk => by
    have hk32 : k < 32 := by rw [Dk.blk_len h.ok.kept hj] at hk; exact hk
    have := h.kept.cells (g := gk) (by rw [hbK]; rfl) (j32 + k) (B ((Dk.blk d.kept j)[k])) (by
      unfold bcs
      rw [List.getElem?_map]
      have e := Dk.blk_get d.kept j k
      rw [if_pos hk32, List.getElem?_eq_getElem hk] at e
      rw [show j32 + k = 32 * j + k by omega, ← e]
      rfl)
    rw [Addr.add_mid, Nat.zero_add] at this
    exact this⟩)
  have HR := Lib.hid h
  have HM := Lib.hid hm
  have m1 : (32 : Int) * (j : Int) = (j32 : Int) := by omega
  have m2 : (j32 : Int) + 32 = (j64 : Int) := by omega
  have m3 : IntKind.i64.wrap (j32 : Int) = (j32 : Int) := IntWalk.i64_in _ (by omega)
  have m4 : IntKind.i64.wrap (j64 : Int) = (j64 : Int) := IntWalk.i64_in _ (by omega)
  have m5 : (0 : Int) ≤ (j32 : Int) := by omega
  have m6 : (j32 : Int) ≤ (j64 : Int) := by omega
  have m7 : (j64 : Int) ≤ (cK : Int) := by omega
  have m8 : ¬ cK = j32 := by omega
  have m9 : j64 - j32 = 32 := by omega
  have HC32 : Hid (32 ≤ cK - j32) := Lib.hid (by omega)
  have hj0 : ¬ (j : Int) < 0 := by omega
  have hjNI : ¬ (N : Int) ≤ (j : Int) := by omega
  clear hN hL hm hLn eK1 eKn eK2 hcapn hcapm hKs hKb hgk hbK hcK hj32 hj64 h _ht hcKL
  go_enter Tryd.func63, Tryd.ntmps63
  go_wp2_with (refine HLN.mono ?_; rintro e w' ⟨rfl, rfl⟩)
  clear HLN
  go_loop [5, 6] (fun ov iv => ∃ (k : Nat) (A : Option Addr) (c : Nat), k ≤ m ∧ iv = .int .i64 k ∧ ov = .slice A 32 c ∧ 32 ≤ c ∧ BIn w A (Dk.seen j (Dk.blk d.kept j) (d.st.take k))) (fun _ iv => m - (intOf iv).toNat)
  case atStart => exact ⟨0, some ⟨gk, j32, none⟩, cK - j32, Nat.zero_le _, rfl, rfl, HC32.out, HB0.out⟩
  case round =>
    obtain ⟨k, A, c, hk, rfl, rfl, hc32, hbin⟩ := hrel
    have HCC := Lib.hid hc32
    clear hc32
    have hk0 : (0 : Int) ≤ (k : Int) := by omega
    by_cases hlt : k < m
    · have hkl : k < d.st.length := by have := HM.out; omega
      obtain ⟨g, hg, hgl, hrange⟩ := range_r HR.out hkl
      have hgs : k < b.gs.length := by rw [HR.out.gl]; exact hkl
      have hgb := HR.out.gb k hkl
      have HSN : Hid (Dk.seen j (Dk.blk d.kept j) (d.st.take (k + 1)) = if d.st[k].1 = j then d.st[k].2 else Dk.seen j (Dk.blk d.kept j) (d.st.take k)) := Lib.hid (by rw [List.take_succ_eq_append_getElem hkl, Dk.seen_snoc])
      obtain ⟨gb, hgbe⟩ : ∃ gb, gb = b.gs[k]'hgs := ⟨_, rfl⟩
      rw [← hgbe] at hrange hgb
      obtain ⟨⟨at0, y⟩, hs⟩ : ∃ s, s = d.st[k] := ⟨_, rfl⟩
      rw [← hs] at hrange HSN hgb
      dsimp only at hrange HSN hgb
      have q0 := hrange 0 (.int .i64 (at0 : Int)) rfl
      have q1 := hrange 1 (.slice (some ⟨gb, 0, none⟩) 32 32) rfl
      rw [Nat.add_zero] at q0
      have HGB := Lib.hid hgb
      have HBIN := Lib.hid hbin
      rw [hg] at p1
      have hkI : (k : Int) < (m : Int) := by omega
      clear hs hkl hgb hgbe hg hrange hbin hgs
      by_cases he : at0 = j
      · rw [if_pos he] at HSN
        have he1 : ((at0 : Int) == (j : Int)) = true := by simp; omega
        have HEE := Lib.hid he
        clear he
        go_wp2_with fail
        go_round
        case rel => exact ⟨k + 1, some ⟨gb, 0, none⟩, 32, by omega, by go_num, rfl, Nat.le_refl _, by rw [HSN.out]; exact cB_in HGB.out⟩
        case measure => simp [intOf]; omega
      · rw [if_neg he] at HSN
        have he1 : ((at0 : Int) == (j : Int)) = false := by simp; omega
        have he3 : ¬ (at0 : Int) = (j : Int) := by omega
        clear he
        go_wp2_with fail
        go_round
        case rel => exact ⟨k + 1, A, c, by omega, by go_num, rfl, HCC.out, by rw [HSN.out]; exact HBIN.out⟩
        case measure => simp [intOf]; omega
    · have hkI : ¬ (k : Int) < (m : Int) := by omega
      have HE : Hid (BIn w A (Dk.seen j (Dk.blk d.kept j) d.st)) := Lib.hid (by
        have := HM.out
        rw [List.take_of_length_le (by omega)] at hbin
        exact hbin)
      clear hbin
      go_wp2_with fail
      go_ret
      first | exact ⟨⟨A, c, rfl, HCC.out, HE.out⟩, rfl⟩ | exact ⟨⟨A, c, by simp, HCC.out, HE.out⟩, rfl⟩
end Go.Proofs.YtkmljbbnpjlehaaDoor
namespace Go.Proofs.YtkmljbbnpjlehaaDoor
set_option maxRecDepth 8000
open Go.RowKit

/-- The records that a call tells: a list in blocks of its own. -/
def RecOwn (l : List (List UInt8)) (w : World) (e : Ending) (w' : World) : Prop :=
  ∃ A c m cs, e = .returned (.slice A m c) ∧ LRow w.heap.size w' A m c l cs ∧ Below w.heap.size w w'
/-- What is done beside a row's blocks leaves it. -/
theorem LRow.beside {base : Nat} {w w' : World} {A : Option Addr} {n c : Nat} {l : List (List UInt8)} {cs : List Value} (h : LRow base w A n c l cs) (hf : ∀ b, base ≤ b → b < w.heap.size → w'.heap[b]? = w.heap[b]?) (hz : w.heap.size ≤ w'.heap.size) : LRow base w' A n c l cs := by
  refine ⟨h.len, ⟨h.row.1, ?_⟩, fun k hk => ?_⟩
  · rcases h.row.2 with h1 | ⟨g, cap, cur, hv, hb, hg, hr⟩
    · exact .inl h1
    · exact .inr ⟨g, cap, cur, hv, hb, by rw [hf g hb (Array.getElem?_eq_some_iff.1 hg).1]; exact hg, hr⟩
  · obtain ⟨Ak, ck, e1, e2, e3⟩ := h.el k hk
    exact ⟨Ak, ck, e1, cells_block e2 (fun b hb => hf b (e3 b hb).1 (e3 b hb).2.1) hz, fun b hb => ⟨(e3 b hb).1, Nat.lt_of_lt_of_le (e3 b hb).2.1 hz, (e3 b hb).2.2⟩⟩

set_option maxHeartbeats 3200000 in
theorem records_own (w : World) (m : Lm) (l : Wl.L) (hH : Hs w) (h : LAt w m l) (hl : l.fr.length ≤ 16777216) :
    Calls Tryd.prog 33 #[.pointer (some ⟨m.L, 0, none⟩)] w (RecOwn (Fr.scan l.fr).1 w) := by
  obtain ⟨_, _, _, c3⟩ := h.c
  have HSC := Lib.hid (scan_own m.A m.c l.fr.length l.fr w hH rfl h.fr h.cap.1 h.cap.2 hl)
  have HRO := Lib.hid (rows_of l.fr)
  obtain ⟨rs, hrs⟩ : ∃ rs, rs = (Fr.scan l.fr).1 := ⟨_, rfl⟩
  unfold ToldOwn at HSC
  rw [← hrs] at HSC HRO ⊢
  obtain ⟨sc, hsc⟩ : ∃ sc, sc = (Fr.scan l.fr).2 := ⟨_, rfl⟩
  rw [← hsc] at HSC
  obtain ⟨u, hu⟩ : ∃ u, u = l.fr.length := ⟨_, rfl⟩
  rw [← hu] at HSC HRO c3 hl
  clear hrs hsc h hH hu
  go_enter Tryd.func33, Tryd.ntmps33
  go_wp2_with fail
  refine HSC.out.mono ?_
  rintro _ w2 ⟨A, c, n, cs, rfl, hlr, hb2⟩
  have hcap := hlr.cap
  have hnl := hlr.len
  have hn16 : n ≤ 16777216 := by have := HRO.out.1; omega
  have HB2 := Lib.hid hb2
  have HLR := Lib.hid hlr
  have HNL := Lib.hid hnl
  clear hlr hb2 HSC hnl
  go_wp2_with fail
  go_loopw [17] (fun iv wr => ∃ (k : Nat) (cs' : List Value), k ≤ n ∧ iv = .int .i64 (k : Int) ∧ LRow w.heap.size wr A n c rs cs' ∧ Below w.heap.size w wr) (fun iv _ => n - (intOf iv).toNat)
  case atStart => exact ⟨0, cs, Nat.zero_le _, rfl, HLR.out, HB2.out⟩
  case round =>
    obtain ⟨k, cs', hk, rfl, hlr, hb⟩ := hrel
    by_cases hlt : k < n
    · have hkI : (k : Int) < (n : Int) := by omega
      have hk0 : (0 : Int) ≤ (k : Int) := by omega
      have hkr : k < rs.length := by have := HNL.out; omega
      obtain ⟨Ak, ck, e1, e2, e3⟩ := hlr.el k hkr
      have hx := HRO.out.2 rs[k] (List.getElem_mem hkr)
      obtain ⟨g, hg⟩ : ∃ g, A = some ⟨g, 0, none⟩ := by
        rcases hlr.row.2 with ⟨hv, h0⟩ | ⟨g, cap, cur, hv, _⟩
        · omega
        · injection hv with hv _ _
          exact ⟨g, hv⟩
      subst hg
      have hgl : g < wr.heap.size := (hlr.own g rfl).2
      have HGB := Lib.hid (hlr.own g rfl).1
      obtain ⟨xb, xo, hA', hxlt, hxc⟩ := e2 (by omega)
      have hcell : wr.cell? ⟨g, k, none⟩ = some (.slice Ak rs[k].length ck) := by
        have := hlr.row.cells (g := g) rfl k _ e1
        rwa [Addr.add_mid, Nat.zero_add] at this
      subst hA'
      have HPUT := Lib.hid (fun (w' : World) (hb' : Below wr.heap.size wr w') (A' : Option Addr) (c' : Nat) (hx' : BCells w' w'.heap.size A' rs[k]) (hf : ∀ b ∈ blkOf A', w.heap.size ≤ b ∧ b < w'.heap.size ∧ b ∉ blkOf (some ⟨g, 0, none⟩)) => LRow.put (hlr.next hb') hkr (c' := c') hx' hf rfl)
      have HFR := Lib.hid (fun (w' : World) (hb' : Below wr.heap.size wr w') => (hlr.next hb').row.frozenAt k)
      have HCL := Lib.hid (cloneB_any wr ⟨xb, xo, none⟩ ck rs[k].length rs[k] e2 rfl (by omega))
      obtain ⟨xl, hxl⟩ : ∃ xl, xl = rs[k].length := ⟨_, rfl⟩
      rw [← hxl] at hcell HCL
      have HXL := Lib.hid hxl
      have HB := Lib.hid hb
      have hxlp : 0 < xl := by omega
      clear e1 e2 e3 hlr hb hxc hx hxl
      go_wp2_with fail
      refine HCL.out.mono ?_
      rintro _ w3 ⟨A3, c3', rfl, hrow3, hb3⟩
      have hce3 : w3.cell? ⟨g, k, none⟩ = some (.slice (some ⟨xb, xo, none⟩) xl ck) := (hb3.cell (p := ⟨g, k, none⟩) hgl).trans hcell
      have hfr3 := HFR.out w3 hb3
      have hform := hrow3
      have HP3 := Lib.hid (HPUT.out w3 hb3 A3 c3' (row_cells hrow3) (fun b hb' => by
        cases A3 with
        | none => simp [blkOf] at hb'
        | some ad =>
          simp [blkOf] at hb'
          subst hb'
          have h5 := World.ownsRow.lt hrow3 ad.block rfl
          have := HB.out.size
          refine ⟨by omega, h5.2, ?_⟩
          simp [blkOf]
          omega))
      have HB3 := Lib.hid (HB.out.trans (hb3.mono HB.out.size))
      rw [← HXL.out] at HP3
      clear hrow3 hform hb3 HCL HPUT HFR
      go_wp2_with fail
      go_roundw
      case rel => exact ⟨k + 1, _, by omega, by go_num, HP3.out, HB3.out.setCell (p := ⟨g, k, none⟩) HGB.out _⟩
      case measure => simp [intOf]; omega
    · have hkI : ¬ (k : Int) < (n : Int) := by omega
      have HL := Lib.hid hlr
      have HB := Lib.hid hb
      clear hlr hb
      go_wp2_with fail
      go_ret
      exact ⟨A, c, n, _, rfl, HL.out, HB.out⟩
theorem records_zo {base : Nat} {S : List Nat} {w : World} {P L : Nat} {d : Dk.D} {l : Wl.L} (h : SZ base S w P L d l) (hH : Hs w) {c N : Nat} {kept : List UInt8} (hi : Wl.Inv c N kept l) : Calls Tryd.prog 33 #[.pointer (some ⟨L, 0, none⟩)] w (RecOwn (Wl.rds l) w) := by
  obtain ⟨F, h1, _, _⟩ := h
  have hu := hi.used
  have hul := Wl.areaBytes_lt hi.n512
  obtain ⟨m, rfl, _, hm⟩ := h1.at
  exact records_own w m l hH hm (by omega)
end Go.Proofs.YtkmljbbnpjlehaaDoor
