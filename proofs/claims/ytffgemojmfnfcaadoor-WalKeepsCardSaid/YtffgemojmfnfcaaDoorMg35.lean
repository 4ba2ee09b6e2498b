/- WalKeeps, over what package wal's calls tell. Condition: the table of sums reads as its text lays it. WalKeeps, its number read. Condition: the table of sums reads as its text lays it. -/
import Derived.Test.YtffgemojmfnfcaaDoorMg34
namespace Go.Proofs.YtffgemojmfnfcaaDoor
set_option maxRecDepth 8000
open Go.RowKit

/-- The rounds' state. -/
def KRel (w1 : World) (c n P N : Nat) (gv sv iv : Value) (wr : World) : Prop :=
  ∃ (i Lg m cS : Nat) (As : Option Addr) (cs : List Value) (d : Dk.D) (lg : Wl.L),
    i ≤ N ∧ iv = .int .i64 (i : Int) ∧ gv = .pointer (some ⟨Lg, 0, none⟩) ∧ sv = .slice As m cS ∧ m ≤ i ∧
    SZ w1.heap.size (blkOf As) wr P Lg d lg ∧ SureR w1.heap.size w1.heap.size wr As m cS (Wl.rds lg) cs ∧ Wl.Inv c n d.kept lg ∧ d.n = n ∧ d.st = [] ∧ Wl.Fresh d ∧ Below w1.heap.size w1 wr

set_option maxHeartbeats 12800000 in
theorem walKeeps_any (bl : Nat) (A1 A2 A3 : Option Addr) (c1 c2 c3 n1 n2 n3 : Nat) (l : List (List UInt8)) (stops cuts : List UInt8) (w : World) (hH : Hs w) (hz : 0 < w.heap.size) (hbl : bl ≤ 255)
    (hn1 : l.length = n1) (hl : LC w w.heap.size A1 l) (hc1 : n1 ≤ c1) (hm1 : c1 ≤ 9223372036854775807) (hq : ∀ b ∈ l, b.length ≤ 9223372036854775807)
    (hn2 : stops.length = n2) (hs : BCells w w.heap.size A2 stops) (_hc2 : n2 ≤ c2) (_hm2 : c2 ≤ 9223372036854775807)
    (hcap : ∀ ad, A1 = some ad → ∀ k, k < n1 → ∀ Ak nk ck, w.cell? (ad.add k) = some (.slice Ak nk ck) → nk ≤ ck ∧ ck ≤ 9223372036854775807)
    (hn3 : cuts.length = n3) (hu : BCells w w.heap.size A3 cuts) (_hc3 : n3 ≤ c3) (_hm3 : c3 ≤ 9223372036854775807) :
    Calls Tryd.prog 7 #[.int .u8 (bl : Int), .slice A1 n1 c1, .slice A2 n2 c2, .slice A3 n3 c3] w fun e w' => e = .returned (.bool true) ∧ Below w.heap.size w w' := by
  have HN1 := Lib.hid hn1
  have HN2 := Lib.hid hn2
  have HN3 := Lib.hid hn3
  have HQ := Lib.hid hq
  have HAW := Lib.hid (awake10_any w hH hz)
  obtain ⟨few, hfew⟩ : ∃ q, q = Fr.few l := ⟨_, rfl⟩
  have HFEW := Lib.hid hfew
  have HH := Lib.hid hH
  have HHLT0 := Lib.hid hz
  have HL := Lib.hid hl
  have HS := Lib.hid hs
  have HU := Lib.hid hu
  have HCAP := Lib.hid hcap
  clear hn1 hn2 hn3 hq hfew hH hz hl hs hu hcap
  go_enter Tryd.func7, Tryd.ntmps7
  go_wp2_with fail
  refine HAW.out.mono ?_
  rintro _ w1 ⟨rfl, hb1⟩
  have HB1 := Lib.hid hb1
  have HFW := Lib.hid (refFew_any A1 c1 n1 l w1 HN1.out (HL.out.next hb1) (by omega) HQ.out)
  rw [← HFEW.out] at HFW
  clear HAW hb1
  go_wp2_with fail
  refine HFW.out.mono ?_
  rintro _ w' ⟨rfl, rfl⟩
  clear HFW
  cases few with
  | false =>
    go_wp2_with fail
    go_ret
    exact ⟨rfl, HB1.out⟩
  | true =>
    by_cases h3 : 100 < n3
    · have i3 : (100 : Int) < (n3 : Int) := by omega
      go_wp2_with fail
      go_ret
      exact ⟨rfl, HB1.out⟩
    have i3 : ¬ (100 : Int) < (n3 : Int) := by omega
    have hl20 : n1 ≤ 20 := by
      have h := HFEW.out
      unfold Fr.few at h
      have h2 := (Bool.and_eq_true_iff.1 h.symm).2
      have h4 := of_decide_eq_true h2
      have := HN1.out
      omega
    have HWK := Lib.hid (walked_nil w1 (HH.out.next HB1.out) (4 + bl % 27) (by omega) (by omega))
    rw [show ((4 + bl % 27 : Nat) : Int) = 4 + ((bl : Int) % 27) by omega] at HWK
    obtain ⟨n, hn⟩ : ∃ n, n = 4 + bl % 27 := ⟨_, rfl⟩
    have HNN : Hid (4 ≤ n ∧ n ≤ 512) := Lib.hid (by omega)
    go_wp2_with fail
    refine HWK.out.mono ?_
    rintro _ w2 ⟨P, L, rfl, hsy, hb2⟩
    have hdk := dk_new n HNN.out.2
    have HZ0 : Hid (SZ w1.heap.size (blkOf none) w2 P L (Dk.new (n : Int)) ⟨0, 0, []⟩) := Lib.hid ⟨_, (by rw [hn]; exact hsy), fun x hx => hx, fun x hx => by simp [blkOf] at hx⟩
    have HB2 := Lib.hid hb2
    have HDK := Lib.hid hdk
    have HHZ := Lib.hid (HH.out.next HB1.out)
    have HHLT : Hid (0 < w1.heap.size) := Lib.hid (Nat.lt_of_lt_of_le HHLT0.out HB1.out.size)
    clear hsy hb2 hdk hn HWK
    go_wp2_with fail
    go_loopw [12, 13, 14] (fun gv sv iv wr => KRel w1 (Dk.cutAt cuts 0) n P n1 gv sv iv wr) (fun _ _ iv _ => n1 - (intOf iv).toNat)
    case atStart =>
      obtain ⟨e1, e2, e3, e4⟩ := HDK.out
      exact ⟨0, L, 0, 0, none, [], Dk.new (n : Int), ⟨0, 0, []⟩, Nat.zero_le _, rfl, rfl, rfl, Nat.le_refl _, HZ0.out, SureR.nil (Nat.le_refl _) HB2.out.size, by rw [e2]; exact Wl.inv_new _ HNN.out.1 HNN.out.2, e1, e3, e4, HB2.out⟩
    case round =>
      obtain ⟨i, Lg, m, cS, As, cs, d, lg, hi, rfl, rfl, rfl, hmi, hsz, hsu, hinv, hdn, hst, hfr, hb⟩ := hrel
      by_cases hlt : i < n1
      · have hkl : i < l.length := by have := HN1.out; omega
        obtain ⟨b, off, rfl, hbb, hc⟩ := HL.out (by omega)
        obtain ⟨Ax, cx, c0, hx0⟩ := hc i hkl
        have hcp := HCAP.out _ rfl i hlt Ax l[i].length cx (by rw [Addr.add_mid]; exact c0)
        have c1 : w1.cell? ⟨b, off + i, none⟩ = some (.slice Ax l[i].length cx) := (HB1.out.cell (p := ⟨b, off + i, none⟩) hbb).trans c0
        have hx1 : BCells w1 w1.heap.size Ax l[i] := hx0.next HB1.out
        obtain ⟨x, hx⟩ : ∃ x, x = l[i] := ⟨_, rfl⟩
        rw [← hx] at c1 hx1 hcp
        obtain ⟨nx, hnx⟩ : ∃ nx, nx = x.length := ⟨_, rfl⟩
        rw [← hnx] at c1 hcp
        have hbb1 : b < w1.heap.size := Nat.lt_of_lt_of_le hbb HB1.out.size
        have HX : Hid (∀ w', Below w1.heap.size w1 w' → w'.cell? ⟨b, off + i, none⟩ = some (.slice Ax nx cx) ∧ BCells w' w1.heap.size Ax x) := Lib.hid (fun w' hb' => ⟨(hb'.cell (p := ⟨b, off + i, none⟩) hbb1).trans c1, hx1.keepB hb' (Nat.le_refl _)⟩)
        have HCP := Lib.hid hcp
        have HNX := Lib.hid hnx
        have j0 : (0 : Int) ≤ (i : Int) := by omega
        have j1 : (i : Int) < (n1 : Int) := by omega
        have HST := Lib.hid (And.intro hinv (And.intro hdn (And.intro hst hfr)))
        have HSZ := Lib.hid hsz
        have HSU := Lib.hid hsu
        have HB := Lib.hid hb
        clear c0 hx0 c1 hx1 hx hnx hkl hc hcp hbb hbb1 hinv hdn hst hfr hsz hsu
        by_cases hi2 : i < n2
        · obtain ⟨b2, off2, rfl, hbb2, hc2⟩ := (HS.out.next HB1.out) (by have := HN2.out; omega)
          have hks : i < stops.length := by have := HN2.out; omega
          obtain ⟨s, hs⟩ : ∃ s, s = stops[i].toNat := ⟨_, rfl⟩
          have csl : wr.cell? ⟨b2, off2 + i, none⟩ = some (.int .u8 (s : Int)) := by
            rw [hb.cell (p := ⟨b2, off2 + i, none⟩) hbb2, hc2 i hks, hs]
          have hs8 : s < 256 := by rw [hs]; exact stops[i].toNat_lt
          have j2 : (i : Int) < (n2 : Int) := by omega
          have e1 : d.stop ((s : Int) % 31) = Wl.stopD d (some (s % 31)) := by show d.stop ((s : Int) % 31) = d.stop (((s % 31 : Nat)) : Int); rw [show (((s % 31 : Nat)) : Int) = (s : Int) % 31 by omega]
          have HSTOP := Lib.hid (stop_z HSZ.out hb.size ((s : Int) % 31) (by constructor <;> omega))
          rw [e1] at HSTOP
          clear e1 hs hks hc2 hb hbb2
          go_wp2_with fail
          refine HSTOP.out.mono ?_
          rintro _ w3 ⟨rfl, hz3, hs3, hb3⟩
          obtain ⟨l', hR⟩ := Wl.round_ok HST.out.1 cuts rfl HST.out.2.1 HST.out.2.2.1 HST.out.2.2.2 (some (s % 31)) x
          obtain ⟨k1, k2, k3⟩ := Wl.stopD_is d (some (s % 31))
          have hlen := Wl.append_st (Wl.stopD d (some (s % 31))) lg x (by rw [k2, HST.out.2.1]; exact HNN.out.2)
          rw [k3, HST.out.2.2.1] at hlen
          have HB3 := Lib.hid (HB.out.trans hb3)
          have HAP := Lib.hid (append_z (c := Dk.cutAt cuts 0) (N := n) hz3 HB3.out.size (HHZ.out.next HB3.out) HHLT.out (by rw [k3]; exact HST.out.2.2.1) (by rw [k2]; exact HST.out.2.1) (by rw [k1]; exact HST.out.1) Ax cx nx x (HX.out w3 HB3.out).2 HNX.out.symm HCP.out.1 HCP.out.2)
          have HSU3 := Lib.hid (HSU.out.same hs3 hb3)
          have cel3 := (HX.out w3 HB3.out).1
          obtain ⟨d1, hd1⟩ : ∃ d1, d1 = Wl.stopD d (some (s % 31)) := ⟨_, rfl⟩
          rw [← hd1] at hR HAP hlen
          obtain ⟨R, hRR⟩ : ∃ R, R = Wl.append d1 lg x := ⟨_, rfl⟩
          rw [← hRR] at hR HAP hlen
          obtain ⟨d3, hd3⟩ : ∃ d3, d3 = Wl.crashD R.2.1 cuts (some (s % 31)) := ⟨_, rfl⟩
          rw [← hd3] at hR
          obtain ⟨e0, he0⟩ : ∃ e0, e0 = R.1 := ⟨_, rfl⟩
          rw [← he0] at hR HAP
          have HR := Lib.hid hR
          have HD3 := Lib.hid hd3
          have HLEN := Lib.hid hlen
          clear hz3 hs3 hb3 k1 k2 k3 hlen hR hd1 hRR hd3 he0 HSTOP HSZ HSU csl
          go_wp2_with fail
          refine HAP.out.mono ?_
          rintro _ w3b ⟨rfl, hz3b, hs3b, hb3b⟩
          have HB3B := Lib.hid (HB3.out.trans hb3b)
          have HSU3B := Lib.hid (HSU3.out.same hs3b hb3b)
          have HCR := Lib.hid (crash_z hz3b HB3B.out.size (by have := HLEN.out; simp only [List.length_nil] at this; omega) A3 c3 n3 cuts HN3.out (by omega) ((HU.out.next HB1.out).keepB HB3B.out (Nat.le_refl _)))
          clear hz3b hs3b hb3b HB3 HSU3 HAP cel3
          go_wp2_with fail
          refine HCR.out.mono ?_
          rintro _ w4 ⟨rfl, hz4, hs4, hb4⟩
          rw [show R.2.1.crash cuts = d3 from HD3.out.symm] at hz4
          have HZ4 := Lib.hid hz4
          have HB4 := Lib.hid (HB3B.out.trans hb4)
          have HSU4 := Lib.hid (HSU3B.out.same hs4 hb4)
          clear hz4 hs4 hb4 HB3B HSU3B HCR
          have HOP := Lib.hid (open_z HZ4.out HB4.out.size (HHZ.out.next HB4.out) HR.out.2.1 HR.out.2.2.2.1 HR.out.1)
          clear HZ4
          go_wp2_with fail
          refine HOP.out.mono ?_
          rintro e w5 ⟨L5, rfl, hz5, hs5, hb5⟩
          have HB5 := Lib.hid (HB4.out.trans hb5)
          have HSU5 := Lib.hid (HSU4.out.same hs5 hb5)
          have HRE := Lib.hid (records_zo hz5 (HHZ.out.next HB5.out) HR.out.1)
          have HZ5 := Lib.hid hz5
          clear hz5 hs5 hb5 HOP HB4 HSU4
          go_wp2_with fail
          refine HRE.out.mono ?_
          rintro _ w6 ⟨A6, c6, m6, cs6, rfl, hlr6, hb6⟩
          have hm6 := hlr6.len
          have HZ6 := Lib.hid (HZ5.out.keep hb6)
          have HSU6 := Lib.hid (HSU5.out.next hb6)
          have HB6 := Lib.hid (HB5.out.trans (hb6.mono HB5.out.size))
          have HM6 := Lib.hid hm6
          have HLR6 := Lib.hid hlr6
          have cel6 := (HX.out w6 HB6.out).1
          have HSEP : Hid (w5.heap.size ≤ w6.heap.size ∧ ∀ k, (Value.slice As m cS).ownBlock = some k → k < w5.heap.size) := Lib.hid ⟨hb6.size, fun k hk => (World.ownsRow.lt HSU5.out.row k hk).2⟩
          clear hm6 hlr6 hb6 HRE HZ5 HSU5 HB5
          obtain ⟨hi3, hst3, hfr3, hn3, hcase⟩ := HR.out
          have HI3 := Lib.hid (And.intro hi3 (And.intro hst3 (And.intro hfr3 hn3)))
          clear hi3 hst3 hfr3 hn3 HR
          have hadd : ∀ (hr : Wl.rds l' = Wl.rds lg ++ [x]), m6 = m + 1 := fun hr => by rw [HM6.out, hr, List.length_append, List.length_singleton, HSU6.out.len]
          have hsam : ∀ (hr : Wl.rds l' = Wl.rds lg), m = m6 := fun hr => by rw [HM6.out, hr, HSU6.out.len]
          rcases hcase with ⟨h0, hr⟩ | ⟨h0, h21, hr⟩ | ⟨h21, hr | hr⟩
          · subst h0
            have hm1 := hadd hr
            have HRR := Lib.hid hr
            clear hadd hsam hr
            subst hm1
            have hba : Below w6.heap.size w6 (w6.alloc (.cells #[.slice Ax nx cx] 36)) := (Below.refl _ _).alloc (Nat.le_refl _) _
            have HBA := Lib.hid hba
            have hnews : (w6.alloc (.cells #[.slice Ax nx cx] 36)).heap[w6.heap.size]? = some (.cells #[.slice Ax nx cx] 36 (0, 0)) := heap_alloc_new w6 _
            have hsu7 := HSU6.out.next hba
            clear hba
            go_wp2_with (at_builtin; refine sure_push ?hw1 (.tmp 90) (.tmp 95) w1.heap.size w6.heap.size (.slice As m cS) (.slice Ax nx cx) m cs (by rfl) (by rfl) (by rfl) hsu7.row hnews (by rfl) (by omega) hsu7.sz ?_; rotate_right; intro g cap w7 hown7 hgrow7 hat7)
            obtain ⟨hsu8, hb8⟩ := hsu7.push HNX.out.symm ((HX.out _ (HB6.out.trans (HBA.out.mono HB6.out.size))).2) hown7 hgrow7
            have hz8 := (HZ6.out.keep HBA.out).grown hgrow7 hat7 (hsu8.blk g (by simp [blkOf])).2
            have hb9 : Below w6.heap.size (w6.alloc (.cells #[.slice Ax nx cx] 36)) w7 ∨ True := .inr trivial
            have HLC7 : Hid (LC w7 w7.heap.size A6 (Wl.rds l')) := Lib.hid ((HLR6.out.next HBA.out).beside (fun k h1 h2 => hgrow7.block k h2 (fun e => by have := HSEP.out.2 k e.symm; omega)) hgrow7.size).lc
            have HSU8 := Lib.hid hsu8
            have HZ8 := Lib.hid hz8
            have HB8 := Lib.hid ((HB6.out.trans (HBA.out.mono HB6.out.size)).trans hb8)
            clear hsu8 hz8 hb8 hb9 hsu7 hown7 hgrow7 hat7 hnews
            have HLI := Lib.hid (refLists_any A6 (some ⟨g, 0, none⟩) c6 cap (m + 1) (m + 1) (Wl.rds l') (Wl.rds lg ++ [x]) w7 HM6.out.symm HSU8.out.len HLC7.out HSU8.out.lc (by omega))
            rw [HRR.out, decide_eq_true rfl] at HLI
            go_wp2_with fail
            refine HLI.out.mono ?_
            rintro _ w8 ⟨rfl, hb8⟩
            go_wp2_with fail
            go_roundw
            case rel => exact ⟨i + 1, L5, m + 1, cap, _, _, _, l', by omega, by go_num, rfl, rfl, by omega, HZ8.out.keep hb8, by rw [HRR.out]; exact HSU8.out.next hb8, HI3.out.1, HI3.out.2.2.2, HI3.out.2.1, HI3.out.2.2.1, HB8.out.trans (hb8.mono HB8.out.size)⟩
            case measure => simp [intOf]; omega
          · have i0 : (e0 == 0) = false := by simpa using h0
            have i21 : (e0 == 21) = false := by simpa using h21
            have hm1 := hsam hr
            have HRR := Lib.hid hr
            clear hadd hsam hr
            subst hm1
            have HLI := Lib.hid (refLists_any A6 As c6 cS m m (Wl.rds l') (Wl.rds lg) w6 HM6.out.symm HSU6.out.len HLR6.out.lc HSU6.out.lc (by omega))
            rw [HRR.out, decide_eq_true rfl] at HLI
            go_wp2_with fail
            refine HLI.out.mono ?_
            rintro _ w8 ⟨rfl, hb8⟩
            go_wp2_with fail
            go_roundw
            case rel => exact ⟨i + 1, L5, m, cS, As, cs, _, l', by omega, by go_num, rfl, rfl, by omega, HZ6.out.keep hb8, by rw [HRR.out]; exact HSU6.out.next hb8, HI3.out.1, HI3.out.2.2.2, HI3.out.2.1, HI3.out.2.2.1, HB6.out.trans (hb8.mono HB6.out.size)⟩
            case measure => simp [intOf]; omega
          · subst h21
            have hm1 := hsam hr
            have HRR := Lib.hid hr
            clear hadd hsam hr
            subst hm1
            have HLI := Lib.hid (refLists_any A6 As c6 cS m m (Wl.rds l') (Wl.rds lg) w6 HM6.out.symm HSU6.out.len HLR6.out.lc HSU6.out.lc (by omega))
            rw [HRR.out, decide_eq_true rfl] at HLI
            go_wp2_with fail
            refine HLI.out.mono ?_
            rintro _ w8 ⟨rfl, hb8⟩
            go_wp2_with fail
            go_roundw
            case rel => exact ⟨i + 1, L5, m, cS, As, cs, _, l', by omega, by go_num, rfl, rfl, by omega, HZ6.out.keep hb8, by rw [HRR.out]; exact HSU6.out.next hb8, HI3.out.1, HI3.out.2.2.2, HI3.out.2.1, HI3.out.2.2.1, HB6.out.trans (hb8.mono HB6.out.size)⟩
            case measure => simp [intOf]; omega
          · subst h21
            have hm1 := hadd hr
            have HRR := Lib.hid hr
            clear hadd hsam hr
            subst hm1
            have hba : Below w6.heap.size w6 (w6.alloc (.cells #[.slice Ax nx cx] 36)) := (Below.refl _ _).alloc (Nat.le_refl _) _
            have HBA := Lib.hid hba
            have hnews : (w6.alloc (.cells #[.slice Ax nx cx] 36)).heap[w6.heap.size]? = some (.cells #[.slice Ax nx cx] 36 (0, 0)) := heap_alloc_new w6 _
            have hsu7 := HSU6.out.next hba
            clear hba
            go_wp2_with (at_builtin; refine sure_push ?hw2 (.tmp 107) (.tmp 112) w1.heap.size w6.heap.size (.slice As m cS) (.slice Ax nx cx) m cs (by rfl) (by rfl) (by rfl) hsu7.row hnews (by rfl) (by omega) hsu7.sz ?_; rotate_right; intro g cap w7 hown7 hgrow7 hat7)
            obtain ⟨hsu8, hb8⟩ := hsu7.push HNX.out.symm ((HX.out _ (HB6.out.trans (HBA.out.mono HB6.out.size))).2) hown7 hgrow7
            have hz8 := (HZ6.out.keep HBA.out).grown hgrow7 hat7 (hsu8.blk g (by simp [blkOf])).2
            have hb9 : Below w6.heap.size (w6.alloc (.cells #[.slice Ax nx cx] 36)) w7 ∨ True := .inr trivial
            have HLC7 : Hid (LC w7 w7.heap.size A6 (Wl.rds l')) := Lib.hid ((HLR6.out.next HBA.out).beside (fun k h1 h2 => hgrow7.block k h2 (fun e => by have := HSEP.out.2 k e.symm; omega)) hgrow7.size).lc
            have HSU8 := Lib.hid hsu8
            have HZ8 := Lib.hid hz8
            have HB8 := Lib.hid ((HB6.out.trans (HBA.out.mono HB6.out.size)).trans hb8)
            clear hsu8 hz8 hb8 hb9 hsu7 hown7 hgrow7 hat7 hnews
            have HLI := Lib.hid (refLists_any A6 (some ⟨g, 0, none⟩) c6 cap (m + 1) (m + 1) (Wl.rds l') (Wl.rds lg ++ [x]) w7 HM6.out.symm HSU8.out.len HLC7.out HSU8.out.lc (by omega))
            rw [HRR.out, decide_eq_true rfl] at HLI
            go_wp2_with fail
            refine HLI.out.mono ?_
            rintro _ w8 ⟨rfl, hb8⟩
            go_wp2_with fail
            go_roundw
            case rel => exact ⟨i + 1, L5, m + 1, cap, _, _, _, l', by omega, by go_num, rfl, rfl, by omega, HZ8.out.keep hb8, by rw [HRR.out]; exact HSU8.out.next hb8, HI3.out.1, HI3.out.2.2.2, HI3.out.2.1, HI3.out.2.2.1, HB8.out.trans (hb8.mono HB8.out.size)⟩
            case measure => simp [intOf]; omega
        · have j2 : ¬ (i : Int) < (n2 : Int) := by omega
          obtain ⟨l', hR0⟩ := Wl.round_ok HST.out.1 cuts rfl HST.out.2.1 HST.out.2.2.1 HST.out.2.2.2 none x
          have HAP := Lib.hid (append_z (c := Dk.cutAt cuts 0) (N := n) HSZ.out hb.size (HHZ.out.next hb) HHLT.out HST.out.2.2.1 HST.out.2.1 HST.out.1 Ax cx nx x (HX.out wr hb).2 HNX.out.symm HCP.out.1 HCP.out.2)
          have cel3 := (HX.out wr hb).1
          obtain ⟨R, hRR⟩ : ∃ R, R = Wl.append d lg x := ⟨_, rfl⟩
          rw [← hRR] at HAP
          obtain ⟨e0, he0⟩ : ∃ e0, e0 = R.1 := ⟨_, rfl⟩
          rw [← he0] at HAP
          have hR2 : Wl.Inv (Dk.cutAt cuts 0) n R.2.1.kept l' ∧ R.2.1.st = [] ∧ Wl.Fresh R.2.1 ∧ R.2.1.n = n ∧ (e0 = 0 ∧ Wl.rds l' = Wl.rds lg ++ [x] ∨ (e0 ≠ 0 ∧ e0 ≠ 21 ∧ Wl.rds l' = Wl.rds lg) ∨ (e0 = 21 ∧ (Wl.rds l' = Wl.rds lg ∨ Wl.rds l' = Wl.rds lg ++ [x]))) := by rw [he0, hRR]; exact hR0
          have HR := Lib.hid hR2
          clear hb hR0 hR2 hRR he0
          go_wp2_with fail
          refine HAP.out.mono ?_
          rintro _ w4 ⟨rfl, hz4, hs4, hb4⟩
          have HZ4 := Lib.hid hz4
          have HB4 := Lib.hid (HB.out.trans hb4)
          have HSU4 := Lib.hid (HSU.out.same hs4 hb4)
          clear hz4 hs4 hb4 HAP cel3 HSZ HSU
          have HOP := Lib.hid (open_z HZ4.out HB4.out.size (HHZ.out.next HB4.out) HR.out.2.1 HR.out.2.2.2.1 HR.out.1)
          clear HZ4
          go_wp2_with fail
          refine HOP.out.mono ?_
          rintro e w5 ⟨L5, rfl, hz5, hs5, hb5⟩
          have HB5 := Lib.hid (HB4.out.trans hb5)
          have HSU5 := Lib.hid (HSU4.out.same hs5 hb5)
          have HRE := Lib.hid (records_zo hz5 (HHZ.out.next HB5.out) HR.out.1)
          have HZ5 := Lib.hid hz5
          clear hz5 hs5 hb5 HOP HB4 HSU4
          go_wp2_with fail
          refine HRE.out.mono ?_
          rintro _ w6 ⟨A6, c6, m6, cs6, rfl, hlr6, hb6⟩
          have hm6 := hlr6.len
          have HZ6 := Lib.hid (HZ5.out.keep hb6)
          have HSU6 := Lib.hid (HSU5.out.next hb6)
          have HB6 := Lib.hid (HB5.out.trans (hb6.mono HB5.out.size))
          have HM6 := Lib.hid hm6
          have HLR6 := Lib.hid hlr6
          have cel6 := (HX.out w6 HB6.out).1
          have HSEP : Hid (w5.heap.size ≤ w6.heap.size ∧ ∀ k, (Value.slice As m cS).ownBlock = some k → k < w5.heap.size) := Lib.hid ⟨hb6.size, fun k hk => (World.ownsRow.lt HSU5.out.row k hk).2⟩
          clear hm6 hlr6 hb6 HRE HZ5 HSU5 HB5
          obtain ⟨hi3, hst3, hfr3, hn3, hcase⟩ := HR.out
          have HI3 := Lib.hid (And.intro hi3 (And.intro hst3 (And.intro hfr3 hn3)))
          clear hi3 hst3 hfr3 hn3 HR
          have hadd : ∀ (hr : Wl.rds l' = Wl.rds lg ++ [x]), m6 = m + 1 := fun hr => by rw [HM6.out, hr, List.length_append, List.length_singleton, HSU6.out.len]
          have hsam : ∀ (hr : Wl.rds l' = Wl.rds lg), m = m6 := fun hr => by rw [HM6.out, hr, HSU6.out.len]
          rcases hcase with ⟨h0, hr⟩ | ⟨h0, h21, hr⟩ | ⟨h21, hr | hr⟩
          · subst h0
            have hm1 := hadd hr
            have HRR := Lib.hid hr
            clear hadd hsam hr
            subst hm1
            have hba : Below w6.heap.size w6 (w6.alloc (.cells #[.slice Ax nx cx] 36)) := (Below.refl _ _).alloc (Nat.le_refl _) _
            have HBA := Lib.hid hba
            have hnews : (w6.alloc (.cells #[.slice Ax nx cx] 36)).heap[w6.heap.size]? = some (.cells #[.slice Ax nx cx] 36 (0, 0)) := heap_alloc_new w6 _
            have hsu7 := HSU6.out.next hba
            clear hba
            go_wp2_with (at_builtin; refine sure_push ?hw3 (.tmp 90) (.tmp 95) w1.heap.size w6.heap.size (.slice As m cS) (.slice Ax nx cx) m cs (by rfl) (by rfl) (by rfl) hsu7.row hnews (by rfl) (by omega) hsu7.sz ?_; rotate_right; intro g cap w7 hown7 hgrow7 hat7)
            obtain ⟨hsu8, hb8⟩ := hsu7.push HNX.out.symm ((HX.out _ (HB6.out.trans (HBA.out.mono HB6.out.size))).2) hown7 hgrow7
            have hz8 := (HZ6.out.keep HBA.out).grown hgrow7 hat7 (hsu8.blk g (by simp [blkOf])).2
            have hb9 : Below w6.heap.size (w6.alloc (.cells #[.slice Ax nx cx] 36)) w7 ∨ True := .inr trivial
            have HLC7 : Hid (LC w7 w7.heap.size A6 (Wl.rds l')) := Lib.hid ((HLR6.out.next HBA.out).beside (fun k h1 h2 => hgrow7.block k h2 (fun e => by have := HSEP.out.2 k e.symm; omega)) hgrow7.size).lc
            have HSU8 := Lib.hid hsu8
            have HZ8 := Lib.hid hz8
            have HB8 := Lib.hid ((HB6.out.trans (HBA.out.mono HB6.out.size)).trans hb8)
            clear hsu8 hz8 hb8 hb9 hsu7 hown7 hgrow7 hat7 hnews
            have HLI := Lib.hid (refLists_any A6 (some ⟨g, 0, none⟩) c6 cap (m + 1) (m + 1) (Wl.rds l') (Wl.rds lg ++ [x]) w7 HM6.out.symm HSU8.out.len HLC7.out HSU8.out.lc (by omega))
            rw [HRR.out, decide_eq_true rfl] at HLI
            go_wp2_with fail
            refine HLI.out.mono ?_
            rintro _ w8 ⟨rfl, hb8⟩
            go_wp2_with fail
            go_roundw
            case rel => exact ⟨i + 1, L5, m + 1, cap, _, _, _, l', by omega, by go_num, rfl, rfl, by omega, HZ8.out.keep hb8, by rw [HRR.out]; exact HSU8.out.next hb8, HI3.out.1, HI3.out.2.2.2, HI3.out.2.1, HI3.out.2.2.1, HB8.out.trans (hb8.mono HB8.out.size)⟩
            case measure => simp [intOf]; omega
          · have i0 : (e0 == 0) = false := by simpa using h0
            have i21 : (e0 == 21) = false := by simpa using h21
            have hm1 := hsam hr
            have HRR := Lib.hid hr
            clear hadd hsam hr
            subst hm1
            have HLI := Lib.hid (refLists_any A6 As c6 cS m m (Wl.rds l') (Wl.rds lg) w6 HM6.out.symm HSU6.out.len HLR6.out.lc HSU6.out.lc (by omega))
            rw [HRR.out, decide_eq_true rfl] at HLI
            go_wp2_with fail
            refine HLI.out.mono ?_
            rintro _ w8 ⟨rfl, hb8⟩
            go_wp2_with fail
            go_roundw
            case rel => exact ⟨i + 1, L5, m, cS, As, cs, _, l', by omega, by go_num, rfl, rfl, by omega, HZ6.out.keep hb8, by rw [HRR.out]; exact HSU6.out.next hb8, HI3.out.1, HI3.out.2.2.2, HI3.out.2.1, HI3.out.2.2.1, HB6.out.trans (hb8.mono HB6.out.size)⟩
            case measure => simp [intOf]; omega
          · subst h21
            have hm1 := hsam hr
            have HRR := Lib.hid hr
            clear hadd hsam hr
            subst hm1
            have HLI := Lib.hid (refLists_any A6 As c6 cS m m (Wl.rds l') (Wl.rds lg) w6 HM6.out.symm HSU6.out.len HLR6.out.lc HSU6.out.lc (by omega))
            rw [HRR.out, decide_eq_true rfl] at HLI
            go_wp2_with fail
            refine HLI.out.mono ?_
            rintro _ w8 ⟨rfl, hb8⟩
            go_wp2_with fail
            go_roundw
            case rel => exact ⟨i + 1, L5, m, cS, As, cs, _, l', by omega, by go_num, rfl, rfl, by omega, HZ6.out.keep hb8, by rw [HRR.out]; exact HSU6.out.next hb8, HI3.out.1, HI3.out.2.2.2, HI3.out.2.1, HI3.out.2.2.1, HB6.out.trans (hb8.mono HB6.out.size)⟩
            case measure => simp [intOf]; omega
          · subst h21
            have hm1 := hadd hr
            have HRR := Lib.hid hr
            clear hadd hsam hr
            subst hm1
            have hba : Below w6.heap.size w6 (w6.alloc (.cells #[.slice Ax nx cx] 36)) := (Below.refl _ _).alloc (Nat.le_refl _) _
            have HBA := Lib.hid hba
            have hnews : (w6.alloc (.cells #[.slice Ax nx cx] 36)).heap[w6.heap.size]? = some (.cells #[.slice Ax nx cx] 36 (0, 0)) := heap_alloc_new w6 _
            have hsu7 := HSU6.out.next hba
            clear hba
            go_wp2_with (at_builtin; refine sure_push ?hw4 (.tmp 107) (.tmp 112) w1.heap.size w6.heap.size (.slice As m cS) (.slice Ax nx cx) m cs (by rfl) (by rfl) (by rfl) hsu7.row hnews (by rfl) (by omega) hsu7.sz ?_; rotate_right; intro g cap w7 hown7 hgrow7 hat7)
            obtain ⟨hsu8, hb8⟩ := hsu7.push HNX.out.symm ((HX.out _ (HB6.out.trans (HBA.out.mono HB6.out.size))).2) hown7 hgrow7
            have hz8 := (HZ6.out.keep HBA.out).grown hgrow7 hat7 (hsu8.blk g (by simp [blkOf])).2
            have hb9 : Below w6.heap.size (w6.alloc (.cells #[.slice Ax nx cx] 36)) w7 ∨ True := .inr trivial
            have HLC7 : Hid (LC w7 w7.heap.size A6 (Wl.rds l')) := Lib.hid ((HLR6.out.next HBA.out).beside (fun k h1 h2 => hgrow7.block k h2 (fun e => by have := HSEP.out.2 k e.symm; omega)) hgrow7.size).lc
            have HSU8 := Lib.hid hsu8
            have HZ8 := Lib.hid hz8
            have HB8 := Lib.hid ((HB6.out.trans (HBA.out.mono HB6.out.size)).trans hb8)
            clear hsu8 hz8 hb8 hb9 hsu7 hown7 hgrow7 hat7 hnews
            have HLI := Lib.hid (refLists_any A6 (some ⟨g, 0, none⟩) c6 cap (m + 1) (m + 1) (Wl.rds l') (Wl.rds lg ++ [x]) w7 HM6.out.symm HSU8.out.len HLC7.out HSU8.out.lc (by omega))
            rw [HRR.out, decide_eq_true rfl] at HLI
            go_wp2_with fail
            refine HLI.out.mono ?_
            rintro _ w8 ⟨rfl, hb8⟩
            go_wp2_with fail
            go_roundw
            case rel => exact ⟨i + 1, L5, m + 1, cap, _, _, _, l', by omega, by go_num, rfl, rfl, by omega, HZ8.out.keep hb8, by rw [HRR.out]; exact HSU8.out.next hb8, HI3.out.1, HI3.out.2.2.2, HI3.out.2.1, HI3.out.2.2.1, HB8.out.trans (hb8.mono HB8.out.size)⟩
            case measure => simp [intOf]; omega
      · have j1 : ¬ (i : Int) < (n1 : Int) := by omega
        go_wp2_with fail
        go_ret
        exact ⟨rfl, HB1.out.trans (hb.mono HB1.out.size)⟩
end Go.Proofs.YtffgemojmfnfcaaDoor
namespace Go.Proofs.YtffgemojmfnfcaaDoor
set_option maxRecDepth 8000
open Go.RowKit

theorem walKeeps_at (x : Int) (hx : (Lit.int .u8 x).wf = true) (A1 A2 A3 : Option Addr) (c1 c2 c3 : Nat) (l : List (List UInt8)) (stops cuts : List UInt8) (w : World) (hH : Hs w)
    (hl : LC w w.heap.size A1 l) (hc1 : l.length ≤ c1) (hm1 : c1 ≤ 9223372036854775807) (hq : ∀ b ∈ l, b.length ≤ 9223372036854775807)
    (hcap : ∀ ad, A1 = some ad → ∀ k, k < l.length → ∀ Ak nk ck, w.cell? (ad.add k) = some (.slice Ak nk ck) → nk ≤ ck ∧ ck ≤ 9223372036854775807)
    (hs : BCells w w.heap.size A2 stops) (hc2 : stops.length ≤ c2) (hm2 : c2 ≤ 9223372036854775807)
    (hu : BCells w w.heap.size A3 cuts) (hc3 : cuts.length ≤ c3) (hm3 : c3 ≤ 9223372036854775807) :
    Calls Tryd.prog 7 #[.int .u8 x, .slice A1 l.length c1, .slice A2 stops.length c2, .slice A3 cuts.length c3] w fun e w' => e = .returned (.bool true) ∧ Below w.heap.size w w' := by
  have e1 : IntKind.u8.min = 0 := by decide
  have e2 : IntKind.u8.max = 255 := by decide
  simp [Lit.wf] at hx
  obtain ⟨bl, rfl⟩ := Int.eq_ofNat_of_zero_le (show 0 ≤ x by omega)
  have hz : 0 < w.heap.size := World.block_lt_of_cell? w _ (hH.cell (k := 0) (by omega))
  exact walKeeps_any bl A1 A2 A3 c1 c2 c3 _ _ _ l stops cuts w hH hz (by omega) rfl hl hc1 hm1 hq rfl hs hc2 hm2 hcap rfl hu hc3 hm3
end Go.Proofs.YtffgemojmfnfcaaDoor
