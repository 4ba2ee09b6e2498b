/- What the call Crash of package disk does, for any disk and any cuts. No condition. The disk's calls, for a seat whose statements do other things to it: how they change a disk of base or later; zeros behind a row of bytes; what is compared. No condition. -/
import Derived.Test.YtfceljbmdcbciaaDoorMg22
import Derived.Test.YtfceljbmdcbciaaDoorMg09
import Derived.Laws.IdiomStrings
import Derived.Lib.BufferRead
import Derived.Lib.SlBytesConst
import Derived.Lib.Strings
namespace Go.Proofs.YtfceljbmdcbciaaDoor
set_option maxRecDepth 8000
open Go.RowKit

/-- Nothing is staged, nothing is planned, and it goes off no more. -/
theorem step_crash {w : World} {a : Mm} {d : Dk.D} (h : DAt w a d) (ht : There w a) : Step w a { d with st := [], plan := [], left := -1 } (((w.setCell ⟨a.P, 1, none⟩ (.slice none 0 0)).setCell ⟨a.P, 2, none⟩ (.slice none 0 0)).setCell ⟨a.P, 3, none⟩ (.int .i64 (-1))) := by
  have hs : ∀ x, x < w.heap.size → x ≠ a.P → (((w.setCell ⟨a.P, 1, none⟩ (.slice none 0 0)).setCell ⟨a.P, 2, none⟩ (.slice none 0 0)).setCell ⟨a.P, 3, none⟩ (.int .i64 (-1))).heap[x]? = w.heap[x]? := fun x _ hx => by
    rw [setP_other _ a.P 3 _ x hx, setP_other _ a.P 2 _ x hx, setP_other _ a.P 1 _ x hx]
  have hsub : ∀ x ∈ ({ a with S := none, cS := 0, G := none, cG := 0 } : Mm).F, x ∈ a.F := sub_F rfl rfl (fun _ hx => by cases hx) (fun _ hx => by cases hx)
  have hP : a.P ∈ a.F := (mem_F a _).2 (.inl rfl)
  refine ⟨{ a with S := none, cS := 0, G := none, cG := 0 }, rfl, rfl, h.setP (a' := { a with S := none, cS := 0, G := none, cG := 0 }) ht rfl rfl rfl rfl ⟨h.ok.n, h.ok.kept, fun s hs => by cases hs⟩ (setP_heap (setP_heap (setP_heap h.disk 1 _) 2 _) 3 _) hs (World.ownsRow_nil _ _ _ _) (fun h => absurd h (by simp)) (by simp) (by simp), ⟨fun x hx => ?_⟩, ?_, fun x hx => .inl (hsub x hx)⟩
  · rw [World.size_setCell, World.size_setCell, World.size_setCell]
    exact ht.all x (hsub x hx)
  · exact (((Out.refl _ _).setCell (.inl hP) _).setCell (.inl hP) _).setCell (.inl hP) _

set_option maxHeartbeats 3200000 in
theorem crash_any (w : World) (a : Mm) (d : Dk.D) (A : Option Addr) (cap : Nat) (cuts : List UInt8) (h : DAt w a d) (ht : There w a) (_hst : d.st.length ≤ 1048576) (hcl : cuts.length ≤ 9223372036854775807) (hA : BIn w A cuts) (hF : 0 < cuts.length → ∀ ad, A = some ad → ad.block ∉ a.F) :
    Calls Tryd.prog 28 #[.pointer (some ⟨a.P, 0, none⟩), .slice A cuts.length cap] w (NoPost w a (d.crash cuts)) := by
  have HFIN : Hid (∀ wr, Mid w a d (Dk.layCut cuts 0 d.kept d.st) wr → NoPost w a (d.crash cuts) (.returned (.tuple #[])) (((wr.setCell ⟨a.P, 1, none⟩ (.slice none 0 0)).setCell ⟨a.P, 2, none⟩ (.slice none 0 0)).setCell ⟨a.P, 3, none⟩ (.int .i64 (-1)))) := Lib.hid (fun wr hm => by
    refine ⟨rfl, Step.at ⟨hm.1, hm.2.1, hm.2.2.more (fun x hx => by rw [List.mem_singleton] at hx; rw [hx]; exact (mem_F a _).2 (.inr (.inl rfl)))⟩ (fun at2 t2 => step_crash at2 t2)⟩)
  have HM0 : Mid w a d d.kept w := ⟨h, ht, Out.refl _ _⟩
  have c1 := h.c.2.1
  have HD1 := Lib.hid h
  have HT1 := Lib.hid ht
  obtain ⟨m, hm⟩ : ∃ m, m = d.st.length := ⟨_, rfl⟩
  rw [← hm] at c1 _hst
  have HM := Lib.hid hm
  obtain ⟨n, hn⟩ : ∃ n, n = d.n := ⟨_, rfl⟩
  have hn512 : n ≤ 512 := by rw [hn]; exact HD1.out.ok.n
  have HN := Lib.hid hn
  obtain ⟨c, hc⟩ : ∃ c, c = cuts.length := ⟨_, rfl⟩
  rw [← hc] at hcl ⊢
  have HC := Lib.hid hc
  obtain ⟨S, hS⟩ : ∃ S, S = a.S := ⟨_, rfl⟩
  obtain ⟨cS, hcS⟩ : ∃ x, x = a.cS := ⟨_, rfl⟩
  rw [← hS, ← hcS] at c1
  have hform := own_form h.st
  obtain ⟨A', cap', e1, e2, e3, _, _⟩ := hform
  injection e1 with _ _ e1
  rw [← e1, ← hcS, ← hm] at e2
  rw [← e1, ← hcS] at e3
  unfold maxLen at e3
  have HS := Lib.hid hS
  obtain ⟨r, hr⟩ : ∃ r, r = min m c := ⟨_, rfl⟩
  have hrm : r ≤ m := by omega
  have hrc : r ≤ c := by omega
  have hrI : (0 : Int) ≤ (r : Int) := by omega
  have hrS : (r : Int) ≤ (cS : Int) := by omega
  have hmI : (m : Int) ≤ (cS : Int) := by omega
  have HR := Lib.hid hr
  have HAI := Lib.hid hA
  have HFF := Lib.hid hF
  clear hr hS hcS e1 hc hn hm h ht hA hF
  go_enter Tryd.func28, Tryd.ntmps28
  go_wp2_with fail
  refine wp_region_held_drew (S := fun wx => wx.cell? ⟨a.P, 1, none⟩ = some (.slice S m cS)) (by kernel_rfl) c1 (fun hHeld => ?_)
  refine wpAnyH_take (i := 0) (oi := ⟨_, _, _, _, _, _⟩) (v := .pointer (some ⟨a.P, 0, none⟩)) rfl (by kernel_rfl) (by kernel_rfl) (by kernel_rfl) (fun _ _ _ h => h) (Or.inl ⟨by rfl, by intro wx hSw; (try dsimp only at hSw); go_simp⟩) (by assumption) ?_
  simp only [Act.put, List.setIfInBounds_toArray, List.set_cons_zero, List.set_cons_succ]
  refine wpAnyH_take (i := 1) (oi := ⟨_, _, _, _, _, _⟩) (v := .pointer (some ⟨a.P, 0, none⟩)) rfl (by kernel_rfl) (by kernel_rfl) (by kernel_rfl) (fun _ _ _ h => h) (Or.inl ⟨by rfl, by intro wx hSw; (try dsimp only at hSw); go_simp⟩) (by assumption) ?_
  simp only [Act.put, List.setIfInBounds_toArray, List.set_cons_zero, List.set_cons_succ]
  refine wpAnyH_take (i := 2) (oi := ⟨_, _, _, _, _, _⟩) (v := .pointer (some ⟨a.P, 1, none⟩)) rfl (by kernel_rfl) (by kernel_rfl) (by kernel_rfl) (fun _ _ _ h => h) (Or.inl ⟨by rfl, by intro wx hSw; (try dsimp only at hSw); go_simp⟩) (by assumption) ?_
  simp only [Act.put, List.setIfInBounds_toArray, List.set_cons_zero, List.set_cons_succ]
  refine wpAnyH_take (i := 3) (oi := ⟨_, _, _, _, _, _⟩) (v := .slice S m cS) rfl (by kernel_rfl) (by kernel_rfl) (by kernel_rfl) (fun _ _ _ h => h) (Or.inl ⟨by rfl, by intro wx hSw; (try dsimp only at hSw); go_simp⟩) (by assumption) ?_
  simp only [Act.put, List.setIfInBounds_toArray, List.set_cons_zero, List.set_cons_succ]
  refine wpAnyH_take (i := 4) (oi := ⟨_, _, _, _, _, _⟩) (v := .pointer (some ⟨a.P, 0, none⟩)) rfl (by kernel_rfl) (by kernel_rfl) (by kernel_rfl) (fun _ _ _ h => h) (Or.inl ⟨by rfl, by intro wx hSw; (try dsimp only at hSw); go_simp⟩) (by assumption) ?_
  simp only [Act.put, List.setIfInBounds_toArray, List.set_cons_zero, List.set_cons_succ]
  refine wpAnyH_take (i := 5) (oi := ⟨_, _, _, _, _, _⟩) (v := .pointer (some ⟨a.P, 0, none⟩)) rfl (by kernel_rfl) (by kernel_rfl) (by kernel_rfl) (fun _ _ _ h => h) (Or.inl ⟨by rfl, by intro wx hSw; (try dsimp only at hSw); go_simp⟩) (by assumption) ?_
  simp only [Act.put, List.setIfInBounds_toArray, List.set_cons_zero, List.set_cons_succ]
  refine wpAnyH_take (i := 6) (oi := ⟨_, _, _, _, _, _⟩) (v := .pointer (some ⟨a.P, 1, none⟩)) rfl (by kernel_rfl) (by kernel_rfl) (by kernel_rfl) (fun _ _ _ h => h) (Or.inl ⟨by rfl, by intro wx hSw; (try dsimp only at hSw); go_simp⟩) (by assumption) ?_
  simp only [Act.put, List.setIfInBounds_toArray, List.set_cons_zero, List.set_cons_succ]
  refine wpAnyH_take (i := 7) (oi := ⟨_, _, _, _, _, _⟩) (v := .slice S m cS) rfl (by kernel_rfl) (by kernel_rfl) (by kernel_rfl) (fun _ _ _ h => h) (Or.inl ⟨by rfl, by intro wx hSw; (try dsimp only at hSw); go_simp⟩) (by assumption) ?_
  simp only [Act.put, List.setIfInBounds_toArray, List.set_cons_zero, List.set_cons_succ]
  refine wpAnyH_take (i := 8) (oi := ⟨_, _, _, _, _, _⟩) (v := .int .i64 (m : Int)) rfl (by kernel_rfl) (by kernel_rfl) (by kernel_rfl) (fun _ _ _ h => h) (Or.inl ⟨by rfl, by intro wx hSw; (try dsimp only at hSw); go_simp⟩) (by assumption) ?_
  simp only [Act.put, List.setIfInBounds_toArray, List.set_cons_zero, List.set_cons_succ]
  refine wpAnyH_take (i := 9) (oi := ⟨_, _, _, _, _, _⟩) (v := .slice A c cap) rfl (by kernel_rfl) (by kernel_rfl) (by kernel_rfl) (fun _ _ _ h => h) (Or.inl ⟨by rfl, by intro wx hSw; (try dsimp only at hSw); go_simp⟩) (by assumption) ?_
  simp only [Act.put, List.setIfInBounds_toArray, List.set_cons_zero, List.set_cons_succ]
  refine wpAnyH_take (i := 10) (oi := ⟨_, _, _, _, _, _⟩) (v := .int .i64 (c : Int)) rfl (by kernel_rfl) (by kernel_rfl) (by kernel_rfl) (fun _ _ _ h => h) (Or.inl ⟨by rfl, by intro wx hSw; (try dsimp only at hSw); go_simp⟩) (by assumption) ?_
  simp only [Act.put, List.setIfInBounds_toArray, List.set_cons_zero, List.set_cons_succ]
  refine wpAnyH_take (i := 11) (oi := ⟨_, _, _, _, _, _⟩) (v := .int .i64 (r : Int)) rfl (by kernel_rfl) (by kernel_rfl) (by kernel_rfl) (fun _ _ _ h => h) (Or.inl ⟨by rfl, by intro wx hSw; clear hrm hrc hrI hrS; go_simp; have := HR.out; omega⟩) (by assumption) ?_
  simp only [Act.put, List.setIfInBounds_toArray, List.set_cons_zero, List.set_cons_succ]
  refine wpAnyH_take (i := 12) (oi := ⟨_, _, _, _, _, _⟩) (v := .slice S r cS) rfl (by kernel_rfl) (by kernel_rfl) (by kernel_rfl) (fun _ _ _ h => h) (Or.inl ⟨by rfl, by intro wx hSw; (try dsimp only at hSw); go_simp⟩) (by assumption) ?_
  simp only [Act.put, List.setIfInBounds_toArray, List.set_cons_zero, List.set_cons_succ]
  refine wpAnyH_take (i := 13) (oi := ⟨_, _, _, _, _, _⟩) (v := .int .i64 (r : Int)) rfl (by kernel_rfl) (by kernel_rfl) (by kernel_rfl) (fun _ _ _ h => h) (Or.inl ⟨by rfl, by intro wx hSw; (try dsimp only at hSw); go_simp⟩) (by assumption) ?_
  simp only [Act.put, List.setIfInBounds_toArray, List.set_cons_zero, List.set_cons_succ]
  refine wpAnyH_take (i := 14) (oi := ⟨_, _, _, _, _, _⟩) (v := .int .i64 0) rfl (by kernel_rfl) (by kernel_rfl) (by kernel_rfl) (fun _ _ _ h => h) (Or.inl ⟨by rfl, by intro wx hSw; (try dsimp only at hSw); go_simp⟩) (by assumption) ?_
  simp only [Act.put, List.setIfInBounds_toArray, List.set_cons_zero, List.set_cons_succ]
  refine wpAnyH_done (by kernel_rfl) ?_ _
  clear hHeld
  go_wp2_with fail
  clear c1
  have hrC : Hid (∀ kp, Dk.layCut cuts 0 kp (d.st.take r) = Dk.layCut cuts 0 kp d.st) := Lib.hid (fun kp => by
    have h1 := HR.out
    have h2 := HC.out
    have h3 := HM.out
    have e := Dk.layCut_take cuts d.st 0 kp
    rw [Nat.sub_zero] at e
    rcases Nat.le_total m c with hmc | hmc
    · rw [show r = m by omega, h3, List.take_of_length_le (Nat.le_refl _)]
    · rw [show r = cuts.length by omega]
      exact e)
  go_loopw [21] (fun iv wr => ∃ k : Nat, k ≤ r ∧ iv = .int .i64 k ∧ Mid w a d (Dk.layCut cuts 0 d.kept (d.st.take k)) wr) (fun iv _ => r - (intOf iv).toNat)
  case atStart => exact ⟨0, Nat.zero_le _, rfl, HM0.drew⟩
  case round =>
    obtain ⟨k, hk, rfl, hmid⟩ := hrel
    by_cases hlt : k < r
    · have hkl : k < d.st.length := by have := HM.out; omega
      have hkc : k < cuts.length := by have := HC.out; omega
      obtain ⟨b, hb, hbl, hrange⟩ := range_st hmid.1 hkl
      have hok := HD1.out.ok.st _ (List.getElem_mem hkl)
      have HSN : Hid (Dk.layCut cuts 0 d.kept (d.st.take (k + 1)) = Dk.lay (Dk.layCut cuts 0 d.kept (d.st.take k)) d.st[k] (Dk.cutAt cuts k)) := Lib.hid (by rw [List.take_succ_eq_append_getElem hkl, Dk.layCut_snoc, List.length_take, Nat.zero_add, Nat.min_eq_left (by omega)])
      have hKL := Dk.layCut_ok cuts (d.st.take k) 0 d.kept HD1.out.ok.kept (fun s hs => HD1.out.ok.st s (List.mem_of_mem_take hs))
      obtain ⟨bA, oA, rfl, hbA, hcA⟩ := HAI.out (show 0 < cuts.length by omega)
      have hcell : wr.cell? ⟨bA, oA + k, none⟩ = some (.int .u8 (cuts[k].toNat : Int)) := by
        have hne : bA ≠ a.k := fun e => HFF.out (show 0 < cuts.length by omega) _ rfl (by rw [e]; exact (mem_F a _).2 (.inr (.inl rfl)))
        rw [World.cell?_of_block (w := w) (w' := wr) (a := ⟨bA, oA + k, none⟩) (hmid.2.2.block bA hbA (by simpa using hne))]
        exact hcA k hkc
      have hq : Dk.cutAt cuts k = cuts[k].toNat % 33 := by unfold Dk.cutAt; rw [dif_pos hkc]
      have hbA2 : bA < wr.heap.size := Nat.lt_of_lt_of_le hbA hmid.2.2.size
      rw [hq] at HSN
      obtain ⟨x, hx⟩ : ∃ x, x = cuts[k].toNat := ⟨_, rfl⟩
      have hx256 : x < 256 := by rw [hx]; exact cuts[k].toNat_lt
      rw [← hx] at hcell HSN
      obtain ⟨q, hq2⟩ : ∃ q, q = x % 33 := ⟨_, rfl⟩
      rw [← hq2] at HSN
      have hq33 : q ≤ 32 := by omega
      have hx0 : (0 : Int) ≤ (x : Int) := by omega
      have hxI : (x : Int) < 256 := by omega
      have hm1 : (x : Int) % 33 = (q : Int) := by omega
      have hm2 : (x : Int).tmod 33 = (q : Int) := by rw [Int.tmod_eq_emod_of_nonneg hx0]; exact hm1
      have hm3 : x % 33 = q := hq2.symm
      have hq0 : (0 : Int) ≤ (q : Int) := by omega
      have hqI : (q : Int) ≤ 32 := by omega
      clear hq hcA hbA hx hq2
      dsimp only at hrange
      obtain ⟨⟨at0, y⟩, hs⟩ : ∃ s, s = d.st[k] := ⟨_, rfl⟩
      rw [← hs] at hrange hok HSN
      dsimp only at hrange hok HSN
      obtain ⟨hok1, hok2⟩ := hok
      have hatn : at0 < n := by have := HN.out; omega
      have HY := Lib.hid hok2
      obtain ⟨kp, hkp⟩ : ∃ kp, kp = Dk.layCut cuts 0 d.kept (d.st.take k) := ⟨_, rfl⟩
      rw [← hkp] at hmid HSN hKL
      have HKL := Lib.hid hKL
      have hK2 : 32 * d.n = 32 * n := by have := HN.out; omega
      have HKN := Lib.hid hK2
      have HLAY : Hid ((Dk.lay kp (at0, y) q).length = 32 * d.n) := Lib.hid (Dk.lay_ok q hKL hok1 hok2)
      have HTQ : Hid (∀ (j : Nat) (v : Value), (bcs (y.take q))[j]? = some v → (bcs y)[j]? = some v) := Lib.hid (fun j v hv => by
        have hj : j < q := by have := (List.getElem?_eq_some_iff.1 hv).1; rw [bcs_len, List.length_take] at this; omega
        rw [← hv]
        simp [bcs, hj])
      clear hs hok1 hok2 hkp hkl hKL hK2 hkc
      have hbS : S = some ⟨b, 0, none⟩ := by rw [HS.out]; exact hb
      rw [hbS]
      have hk0 : (0 : Int) ≤ (k : Int) := by omega
      have hkI : (k : Int) < (r : Int) := by omega
      have hkcI : (k : Int) < (c : Int) := by omega
      have hat0 : (0 : Int) ≤ (at0 : Int) := by omega
      have hatI : (at0 : Int) < (n : Int) := by omega
      have hcs : (Go.Proofs.YtfceljbmdcbciaaDoor.cS (at0 : Int) y).size = 33 := by rw [cS_size, HY.out]
      have HCS := Lib.hid hcs
      have HMID := Lib.hid hmid
      clear hcs hb hbS hmid
      go_wp2_with (first
        | ((with_reducible refine wpList_load_mid (op := ⟨some 25, _, _, _, _, _⟩) rfl 121 _ rfl b (k * 33) ?_ (.int .i64 (at0 : Int) :: bcs y) _ hrange Tryd.underlying121 rfl ?_ ?_); exact rfl; exact (by rw [List.length_cons, bcs_len, HY.out]; exact sizeStaged))
        | (with_reducible refine wpList_alloc_z (s := 5) 121 zS zS_run ?_)
        | ((with_reducible refine wpList_store_new 121 (.tmp 5) (.tmp 25) zS (Go.Proofs.YtfceljbmdcbciaaDoor.cS at0 y) ?_ ?_ ?_ ?_ ?_ ?_); exact rfl; exact rfl; exact (by rw [HCS.out]; exact sizeStaged); exact (by rw [HCS.out]; rfl); exact (cS_one _ _)))
      clear hrange hcell
      obtain ⟨g, hg⟩ : ∃ g, g = wr.heap.size := ⟨_, rfl⟩
      have g0 : (wr.alloc (.cells (Go.Proofs.YtfceljbmdcbciaaDoor.cS at0 y) 121)).cell? ⟨g, 0, none⟩ = some (.int .i64 (at0 : Int)) := by rw [hg, cell_of_row _ wr.heap.size 0 _ _ _ (heap_alloc_new wr _)]; rfl
      have g1 : (wr.alloc (.cells (Go.Proofs.YtfceljbmdcbciaaDoor.cS at0 y) 121)).rangeAt g 1 (bcs y) := by rw [hg]; exact range_new wr at0 y
      have hm9 := HMID.out.alloc (.cells (Go.Proofs.YtfceljbmdcbciaaDoor.cS at0 y) 121)
      have hgk : g ≠ a.k := by have := HMID.out.2.1.all _ ((mem_F a _).2 (.inr (.inl rfl))); omega
      rw [← hg]
      obtain ⟨wa, hwa⟩ : ∃ wa, wa = wr.alloc (.cells (Go.Proofs.YtfceljbmdcbciaaDoor.cS at0 y) 121) := ⟨_, rfl⟩
      rw [← hwa] at g0 g1 hm9 ⊢
      have p0 := hm9.1.c.1
      have HKP := Lib.hid hm9.1.kept
      have hPk := hm9.1.Pk
      dsimp only at p0 HKP
      rw [← HN.out] at p0
      have HM2 := Lib.hid hm9
      clear hwa hg hm9 hbA2
      have hset : ∀ (u : Array Value) (p : Addr), p.block ≠ a.k → (wa.drew.setRow a.k u).cell? p = wa.drew.cell? p := fun u p hp => World.cell?_of_block (setRow_other wa.drew a.k p.block u hp)
      have kp0 := fun u => hset u ⟨a.P, 0, none⟩ hPk
      have kg0 := fun u => hset u ⟨g, 0, none⟩ hgk
      have kg1 := fun u q => hset u ⟨g, 1 + q, none⟩ hgk
      clear hset
      refine wp_region_held_drew (S := fun wx => wx.cell? ⟨a.P, 0, none⟩ = some (.slice (some ⟨a.k, 0, none⟩) n n) ∧ wx.cell? ⟨g, 0, none⟩ = some (.int .i64 (at0 : Int)) ∧ wx.rangeAt g 1 (bcs y)) (by kernel_rfl) ⟨p0, g0, g1⟩ (fun hHeld => ?_)
      refine wpAnyH_take (i := 0) (oi := ⟨_, _, _, _, _, _⟩) (v := .pointer (some ⟨a.P, 0, none⟩)) rfl (by kernel_rfl) (by kernel_rfl) (by kernel_rfl) (fun _ _ _ h => h) (Or.inl ⟨by rfl, by intro wx hSw; (try dsimp only at hSw); go_simp⟩) (by assumption) ?_
      simp only [Act.put, List.setIfInBounds_toArray, List.set_cons_zero, List.set_cons_succ]
      refine wpAnyH_take (i := 1) (oi := ⟨_, _, _, _, _, _⟩) (v := .pointer (some ⟨a.P, 0, none⟩)) rfl (by kernel_rfl) (by kernel_rfl) (by kernel_rfl) (fun _ _ _ h => h) (Or.inl ⟨by rfl, by intro wx hSw; (try dsimp only at hSw); go_simp⟩) (by assumption) ?_
      simp only [Act.put, List.setIfInBounds_toArray, List.set_cons_zero, List.set_cons_succ]
      refine wpAnyH_take (i := 2) (oi := ⟨_, _, _, _, _, _⟩) (v := .pointer (some ⟨a.P, 0, none⟩)) rfl (by kernel_rfl) (by kernel_rfl) (by kernel_rfl) (fun _ _ _ h => h) (Or.inl ⟨by rfl, by intro wx hSw; (try dsimp only at hSw); go_simp⟩) (by assumption) ?_
      simp only [Act.put, List.setIfInBounds_toArray, List.set_cons_zero, List.set_cons_succ]
      refine wpAnyH_take (i := 3) (oi := ⟨_, _, _, _, _, _⟩) (v := .slice (some ⟨a.k, 0, none⟩) n n) rfl (by kernel_rfl) (by kernel_rfl) (by kernel_rfl) (fun _ _ _ h => h) (Or.inl ⟨by rfl, by intro wx hSw; (try dsimp only at hSw); go_simp⟩) (by assumption) ?_
      simp only [Act.put, List.setIfInBounds_toArray, List.set_cons_zero, List.set_cons_succ]
      refine wpAnyH_take (i := 4) (oi := ⟨_, _, _, _, _, _⟩) (v := .pointer (some ⟨g, 0, none⟩)) rfl (by kernel_rfl) (by kernel_rfl) (by kernel_rfl) (fun _ _ _ h => h) (Or.inl ⟨by rfl, by intro wx hSw; (try dsimp only at hSw); go_simp⟩) (by assumption) ?_
      simp only [Act.put, List.setIfInBounds_toArray, List.set_cons_zero, List.set_cons_succ]
      refine wpAnyH_take (i := 5) (oi := ⟨_, _, _, _, _, _⟩) (v := .int .i64 (at0 : Int)) rfl (by kernel_rfl) (by kernel_rfl) (by kernel_rfl) (fun _ _ _ h => h) (Or.inl ⟨by rfl, by intro wx hSw; (try dsimp only at hSw); go_simp⟩) (by assumption) ?_
      simp only [Act.put, List.setIfInBounds_toArray, List.set_cons_zero, List.set_cons_succ]
      refine wpAnyH_take (i := 6) (oi := ⟨_, _, _, _, _, _⟩) (v := .pointer (some ⟨a.k, at0 * 32, none⟩)) rfl (by kernel_rfl) (by kernel_rfl) (by kernel_rfl) (fun _ _ _ h => h) (Or.inl ⟨by rfl, by intro wx hSw; (try dsimp only at hSw); go_simp⟩) (by assumption) ?_
      simp only [Act.put, List.setIfInBounds_toArray, List.set_cons_zero, List.set_cons_succ]
      refine wpAnyH_take (i := 7) (oi := ⟨_, _, _, _, _, _⟩) (v := .slice (some ⟨a.k, at0 * 32, none⟩) 32 32) rfl (by kernel_rfl) (by kernel_rfl) (by kernel_rfl) (fun _ _ _ h => h) (Or.inl ⟨by rfl, by intro wx hSw; (try dsimp only at hSw); go_simp⟩) (by assumption) ?_
      simp only [Act.put, List.setIfInBounds_toArray, List.set_cons_zero, List.set_cons_succ]
      refine wpAnyH_take (i := 8) (oi := ⟨_, _, _, _, _, _⟩) (v := .pointer (some ⟨g, 1, none⟩)) rfl (by kernel_rfl) (by kernel_rfl) (by kernel_rfl) (fun _ _ _ h => h) (Or.inl ⟨by rfl, by intro wx hSw; (try dsimp only at hSw); go_simp⟩) (by assumption) ?_
      simp only [Act.put, List.setIfInBounds_toArray, List.set_cons_zero, List.set_cons_succ]
      refine wpAnyH_take (i := 9) (oi := ⟨_, _, _, _, _, _⟩) (v := .int .i64 (q : Int)) rfl (by kernel_rfl) (by kernel_rfl) (by kernel_rfl) (fun _ _ _ h => h) (Or.inl ⟨by rfl, by intro wx hSw; (try dsimp only at hSw); go_simp⟩) (by assumption) ?_
      simp only [Act.put, List.setIfInBounds_toArray, List.set_cons_zero, List.set_cons_succ]
      refine wpAnyH_take (i := 10) (oi := ⟨_, _, _, _, _, _⟩) (v := .slice (some ⟨g, 1, none⟩) q 32) rfl (by kernel_rfl) (by kernel_rfl) (by kernel_rfl) (fun _ _ _ h => h) (Or.inl ⟨by rfl, by intro wx hSw; (try dsimp only at hSw); go_simp⟩) (by assumption) ?_
      simp only [Act.put, List.setIfInBounds_toArray, List.set_cons_zero, List.set_cons_succ]
      refine wpAnyH_ready (rs := [11]) (by kernel_rfl) (by simp) ?_
      refine AllReadyH.cons (o := ⟨_, _, _, _, _, _⟩) rfl (fun K hK => ?_) AllReadyH.nil
      rw [if_pos (by rfl)]
      refine wp_copy_splice1 (.tmp 39) (.tmp 42) 36 36 rfl 5 Tryd.underlying36 (by kernel_rfl) a.k (at0 * 32) 32 32 ⟨g, 1, none⟩ q 32 rfl rfl (bcs kp) 119 HKP.out (bcs (y.take q)) (by rw [bcs_len, List.length_take, HY.out]) (fun j v hv => by rw [Addr.add_mid]; exact g1 j v (HTQ.out j v hv)) (by rw [bcs_len, bcs_len, List.length_take, HY.out, HKL.out]; have := HKN.out; omega) (bcs_one _) ?_
      refine hK.out _ _ ⟨(kp0 _).trans p0, (kg0 _).trans g0, fun q' v hv => (kg1 _ _).trans (g1 q' v hv)⟩ (fun hHeld => ?_)
      clear hK K
      simp only [Act.put, List.setIfInBounds_toArray, List.set_cons_zero, List.set_cons_succ]
      refine wpAnyH_done (by kernel_rfl) ?_ _
      clear hHeld p0 g0 g1 kp0 kg0 kg1
      have HM3 : Hid (Mid w a d (Dk.lay kp (at0, y) q) (wa.drew.setRow a.k (splice (bcs kp) (at0 * 32) (bcs (y.take q))).toArray)) := Lib.hid (by
        rw [lay_cells]
        exact HM2.out.drew.set HLAY.out)
      go_wp2
      go_roundw
      case rel => exact ⟨k + 1, by omega, by go_num, by rw [HSN.out]; exact HM3.out⟩
      case measure => simp [intOf]; omega
    · have hkI : ¬ (k : Int) < (r : Int) := by omega
      have HMF : Hid (Mid w a d (Dk.layCut cuts 0 d.kept d.st) wr) := Lib.hid (by
        rw [← hrC.out, show r = k by omega]
        exact hmid)
      have HZ := Lib.hid (HFIN.out wr HMF.out)
      have cc := HMF.out.1.c
      have f1 := HMF.out.1.fr 1
      have f2 := HMF.out.1.fr 2
      have f3 := HMF.out.1.fr 3
      dsimp only at cc
      obtain ⟨_, c1, c2, c3⟩ := cc
      clear hmid
      go_wp2_with fail
      go_end0
      exact HZ.out
end Go.Proofs.YtfceljbmdcbciaaDoor
namespace Go.Proofs.YtfceljbmdcbciaaDoor
set_option maxRecDepth 8000
open Go.RowKit

def I64 (x : Int) : Prop := x ≤ 9223372036854775807 ∧ -9223372036854775808 ≤ x
/-- Bytes, bools below a bound. -/
def BInB (w : World) (bd : Nat) (A : Option Addr) (l : List UInt8) : Prop := 0 < l.length → ∃ b off, A = some ⟨b, off, none⟩ ∧ b < bd ∧ ∀ k (h : k < l.length), w.cell? ⟨b, off + k, none⟩ = some (B l[k])
def PInB (w : World) (bd : Nat) (A : Option Addr) (cap : Nat) (p : List Bool) : Prop := (A = none → p = [] ∧ cap = 0) ∧ (0 < p.length → ∃ b off, A = some ⟨b, off, none⟩ ∧ b < bd ∧ ∀ k (h : k < p.length), w.cell? ⟨b, off + k, none⟩ = some (.bool p[k]))
theorem BInB.keep {w w' : World} {bd : Nat} {A : Option Addr} {l : List UInt8} (h : BInB w bd A l) (hb : Below bd w w') : BInB w' bd A l := fun hn => by
  obtain ⟨b, off, e, hlt, hc⟩ := h hn
  exact ⟨b, off, e, hlt, fun k hk => (hb.cell (p := ⟨b, off + k, none⟩) hlt).trans (hc k hk)⟩
theorem PInB.keep {w w' : World} {bd : Nat} {A : Option Addr} {cap : Nat} {l : List Bool} (h : PInB w bd A cap l) (hb : Below bd w w') : PInB w' bd A cap l := ⟨h.1, fun hn => by
  obtain ⟨b, off, e, hlt, hc⟩ := h.2 hn
  exact ⟨b, off, e, hlt, fun k hk => (hb.cell (p := ⟨b, off + k, none⟩) hlt).trans (hc k hk)⟩⟩
theorem BInB.bin {w : World} {bd : Nat} {A : Option Addr} {l : List UInt8} (h : BInB w bd A l) (hb : bd ≤ w.heap.size) : BIn w A l := fun hn => by
  obtain ⟨b, off, e, hlt, hc⟩ := h hn
  exact ⟨b, off, e, by omega, hc⟩
/-- A disk that lies in block base or later. -/
def SD (base : Nat) (w : World) (P : Nat) (d : Dk.D) : Prop := ∃ a : Mm, a.P = P ∧ DAt w a d ∧ There w a ∧ ∀ x ∈ a.F, base ≤ x
theorem Step.sd {w w' : World} {a : Mm} {d' : Dk.D} {base : Nat} (h : Step w a d' w') (hF : ∀ x ∈ a.F, base ≤ x) (hb : base ≤ w.heap.size) : SD base w' a.P d' ∧ Below base w w' := by
  obtain ⟨a', p, _, at', t', o, f⟩ := h
  refine ⟨⟨a', p, at', t', fun x hx => ?_⟩, o.below hF hb⟩
  rcases f x hx with h | h
  · exact hF x h
  · exact Nat.le_trans hb h
theorem SD.keep {base : Nat} {w w' : World} {P : Nat} {d : Dk.D} (h : SD base w P d) (hb : Below w.heap.size w w') : SD base w' P d := by
  obtain ⟨a, p, h1, h2, h3⟩ := h
  exact ⟨a, p, h1.same (fun b hb' => hb.block b (h2.all b hb')), h2.more hb.size, h3⟩
theorem MadePost.sd {w w' : World} {d : Dk.D} {e : Ending} (h : MadePost w d e w') : ∃ P, e = .returned (.pointer (some ⟨P, 0, none⟩)) ∧ SD w.heap.size w' P d ∧ Below w.heap.size w w' := by
  obtain ⟨a, e1, h1, h2, h3, h4⟩ := h
  exact ⟨a.P, e1, ⟨a, rfl, h1, h2, h4⟩, h3⟩
def IntSD (base : Nat) (w : World) (P : Nat) (x : Int) (d' : Dk.D) (e : Ending) (w' : World) : Prop := e = .returned (.int .i64 x) ∧ SD base w' P d' ∧ Below base w w'
def NoSD (base : Nat) (w : World) (P : Nat) (d' : Dk.D) (e : Ending) (w' : World) : Prop := e = .returned (.tuple #[]) ∧ SD base w' P d' ∧ Below base w w'
section
variable {base : Nat} {w : World} {P : Nat} {d : Dk.D}
theorem write_sd (h : SD base w P d) (hb : base ≤ w.heap.size) (hst : d.st.length ≤ 1048575) (i : Int) (A : Option Addr) (cap : Nat) (l : List UInt8) (hl : l.length ≤ 9223372036854775807) (hA : BInB w base A l) :
    Calls Tryd.prog 97 #[.pointer (some ⟨P, 0, none⟩), .int .i64 i, .slice A l.length cap] w (IntSD base w P (d.writeE i l) (d.write i l)) := by
  obtain ⟨a, rfl, h1, h2, h3⟩ := h
  refine (write_any w a d i A cap l h1 h2 hst hl (hA.bin hb) (fun hn ad e hx => ?_)).mono ?_
  · obtain ⟨b, off, e2, hlt, _⟩ := hA hn
    have h5 := h3 _ hx
    rw [e] at e2
    injection e2 with e2
    rw [e2] at h5
    dsimp only at h5
    omega
  · rintro e w' ⟨rfl, hs⟩
    exact ⟨rfl, hs.sd h3 hb⟩
theorem sync_sd (h : SD base w P d) (hb : base ≤ w.heap.size) (hst : d.st.length ≤ 1048576) :
    Calls Tryd.prog 95 #[.pointer (some ⟨P, 0, none⟩)] w (IntSD base w P d.syncE d.sync) := by
  obtain ⟨a, rfl, h1, h2, h3⟩ := h
  exact (sync_any w a d h1 h2 hst).mono (by rintro e w' ⟨rfl, hs⟩; exact ⟨rfl, hs.sd h3 hb⟩)
theorem drop_sd (h : SD base w P d) (hb : base ≤ w.heap.size) : Calls Tryd.prog 100 #[.pointer (some ⟨P, 0, none⟩)] w (NoSD base w P d.drop) := by
  obtain ⟨a, rfl, h1, h2, h3⟩ := h
  exact (drop_any w a d h1 h2).mono (by rintro e w' ⟨rfl, hs⟩; exact ⟨rfl, hs.sd h3 hb⟩)
theorem stop_sd (h : SD base w P d) (hb : base ≤ w.heap.size) (n : Int) (hn : I64 n) : Calls Tryd.prog 26 #[.pointer (some ⟨P, 0, none⟩), .int .i64 n] w (NoSD base w P (d.stop n)) := by
  obtain ⟨a, rfl, h1, h2, h3⟩ := h
  exact (stop_any w a d n h1 h2 hn).mono (by rintro e w' ⟨rfl, hs⟩; exact ⟨rfl, hs.sd h3 hb⟩)
theorem faults_sd (h : SD base w P d) (hb : base ≤ w.heap.size) (A : Option Addr) (cap : Nat) (p : List Bool) (hp : PlanIn w A cap p) : Calls Tryd.prog 33 #[.pointer (some ⟨P, 0, none⟩), .slice A p.length cap] w (NoSD base w P { d with plan := p }) := by
  obtain ⟨a, rfl, h1, h2, h3⟩ := h
  exact (faults_any w a d A cap p h1 h2 hp).mono (by rintro e w' ⟨rfl, hs⟩; exact ⟨rfl, hs.sd h3 hb⟩)
theorem crash_sd (h : SD base w P d) (hb : base ≤ w.heap.size) (hst : d.st.length ≤ 1048576) (A : Option Addr) (cap : Nat) (l : List UInt8) (hl : l.length ≤ 9223372036854775807) (hA : BInB w base A l) :
    Calls Tryd.prog 28 #[.pointer (some ⟨P, 0, none⟩), .slice A l.length cap] w (NoSD base w P (d.crash l)) := by
  obtain ⟨a, rfl, h1, h2, h3⟩ := h
  refine (crash_any w a d A cap l h1 h2 hst hl (hA.bin hb) (fun hn ad e hx => ?_)).mono ?_
  · obtain ⟨b, off, e2, hlt, _⟩ := hA hn
    have h5 := h3 _ hx
    rw [e] at e2
    injection e2 with e2
    rw [e2] at h5
    dsimp only at h5
    omega
  · rintro e w' ⟨rfl, hs⟩
    exact ⟨rfl, hs.sd h3 hb⟩
end
theorem alloc_at {w : World} {a : Mm} {d : Dk.D} (h : DAt w a d) (ht : There w a) (o : Obj) : DAt (w.alloc o) a d ∧ There (w.alloc o) a := ⟨h.same (fun b hb => Below.heap_alloc w o b (ht.all b hb)), ht.more (by simp)⟩
theorem lit_in (w : World) (l : List UInt8) (cs : Array Value) (fr : Nat × Nat) (n : Nat) (hn : n = w.heap.size) (hc : cs = (bcs l).toArray) : BIn (w.alloc (.cells cs 5 fr)) (some ⟨n, 0, none⟩) l := fun _ =>
  ⟨n, 0, rfl, by rw [hn]; simp, fun k hk => by
    rw [hn, Nat.zero_add, cell_of_row _ w.heap.size k _ _ _ (heap_alloc_new w _), hc]
    simp [bcs, hk]⟩
theorem own_cell {w : World} {base : Nat} {A : Option Addr} {cap : Nat} {l : List UInt8} (h : w.ownsRow base 5 1 (.slice A l.length cap) l.length (bcs l)) (hn : 0 < l.length) : ∃ g, A = some ⟨g, 0, none⟩ ∧ g < w.heap.size ∧ base ≤ g ∧ ∀ k (hk : k < l.length), w.cell? ⟨g, k, none⟩ = some (B l[k]) := by
  obtain ⟨A', cap', e, _, _, hA, hblk⟩ := own_form h
  injection e with e1 _ _
  obtain ⟨g, hg⟩ := hA hn
  rw [hg] at e1
  have hb := hblk g (by rw [hg]; simp [blkOf])
  refine ⟨g, e1, hb.2.1, hb.1, fun k hk => ?_⟩
  have := h.cells (g := g) (by rw [e1]; rfl) k (B l[k]) (by simp [bcs, hk])
  rw [Addr.add_mid, Nat.zero_add] at this
  exact this
theorem zeroCells_one (z : Value) (n : Nat) : Builtin.zeroCells #[z] n = (List.replicate n z).toArray := by
  apply Array.ext'
  apply List.ext_getElem?
  intro j
  by_cases hj : j < n
  · simp [Builtin.zeroCells, hj, Nat.mod_one]
  · simp [Builtin.zeroCells, hj]
theorem run_append_zeros (w : World) (ty : TypeId) (base g n cap m : Nat) (xs : List Value) (hown : w.ownsRow base 5 1 (.slice (some ⟨g, 0, none⟩) n cap) n xs) (hnm : n + m ≤ 1048576) (hbase : base ≤ w.heap.size) :
    ∃ v' w', (Builtin.append_ #[36, 3] ty #[.slice (some ⟨g, 0, none⟩) n cap, .int .i64 (m : Int)]).run Tryd.prog w = .ok v' w' ∧ w'.ownsRow base 5 1 v' (n + m) (xs ++ List.replicate m (Value.int .u8 0)) ∧ w.grownBy w' (some g) := by
  obtain ⟨i0, hi0, hz0, hz1, hz2⟩ := info_parts Tryd.infoByte
  have ht := Tryd.underlying36
  have hti := Tryd.underlying3
  have hw : IntKind.i64.wrap (m : Int) = (m : Int) := IntWalk.i64_in _ (by omega)
  have hlen : (xs ++ List.replicate m (Value.int .u8 0)).length = (n + m) * 1 := by rw [List.length_append, hown.1, List.length_replicate, Nat.add_mul]; omega
  rcases hown.2 with ⟨hv, _⟩ | ⟨g', cap', cur, hv, hbg, hg, hnc, hcm, hcs, htake⟩
  · cases hv
  · injection hv with e1 e2 e3
    injection e1 with e1
    injection e1 with e1 _ _
    subst e1 e3
    have hm0 : ¬ (m : Int) < 0 := by omega
    have hm48 : ¬ (281474976710656 < (m : Int)) := by omega
    have happ : ∀ w1 : World, (if m * 1 = 0 then (pure #[] : Sem (Array Value)) else pure (Builtin.zeroCells #[Value.int .u8 0] m)).run Tryd.prog w1 = .ok (List.replicate m (Value.int .u8 0)).toArray w1 := by
      intro w1
      by_cases h0 : m = 0
      · subst h0; simp
      · rw [if_neg (by omega), zeroCells_one]; rfl
    by_cases hroom : n + m ≤ cap
    · have hst := run_storeCells_at Tryd.prog g n 5 (List.replicate m (Value.int .u8 0)) 0 cur w hg (by rw [List.length_replicate]; omega) (fun v hv => by rw [List.eq_of_mem_replicate hv]; rfl)
      simp only [Nat.add_zero] at hst
      refine ⟨.slice (some ⟨g, 0, none⟩) (n + m) cap, w.setRow g (cur.toList.take n ++ List.replicate m (Value.int .u8 0) ++ cur.toList.drop (n + (List.replicate m (Value.int .u8 0)).length)).toArray, ?_, ⟨hlen, .inr ⟨g, cap, _, rfl, hbg, setRow_heap w g cur _ _ _ hg, hroom, hcm, ?_, ?_⟩⟩, ⟨rfl, rfl, rfl, by simp, fun k _ hk => setRow_other w g k _ (fun e => hk (by rw [e]))⟩⟩
      · by_cases h0 : m = 0
        · subst h0
          have hw0 : IntKind.i64.wrap 0 = 0 := rfl
          simp [Builtin.append_, run_underlying ht, run_underlying hti, asInt, asIntOf, sizeOf, typeInfo, hi0, hz2, hw0, hnc, storeCells]
          rw [setRow_self w g cur _ _ hg]
        · simp [Builtin.append_, run_underlying ht, run_underlying hti, asInt, asIntOf, sizeOf, typeInfo, zeroValue, hi0, hz0, hz1, hz2, hw, hm0, hm48, hroom, h0, Value.cells, zeroCells_one, Addr.add_lit]
          rw [hst]
          simp
      · simp; omega
      · rw [List.append_assoc, ← List.append_assoc]
        have e : cur.toList.take n = xs := by rw [← htake, Nat.mul_one]
        rw [e, List.take_left' (by rw [hlen])]
    · have hfit := growslice_fits (need := n + m) (old := cap) (bytes := 1) (by omega) (by omega)
      have h48' : ¬ (281474976710656 < Builtin.nextslicecap (n + m) cap) := by omega
      have h63' : ¬ (9223372036854775807 < ((n : Int) + (m : Int))) := by omega
      have holds : ∀ j u, xs[j]? = some u → w.cell? ((⟨g, 0, none⟩ : Addr).add j) = some u := hown.cells (g := g) rfl
      have hfo := run_firstCells_some (P := Tryd.prog) w.drew 1 n ⟨g, 0, none⟩ n cap xs (by rw [hown.1]) (by simpa using holds)
      have hm1 : ¬ m = 0 := by omega
      have hge := grownCap_ge w (n + m) cap 5
      have hcm2 : grownCap w (n + m) cap 5 ≤ maxLen := grownCap_le_maxLen w (n + m) cap 5 (by unfold maxLen; omega)
      refine ⟨.slice (some ⟨w.heap.size, 0, none⟩) (n + m) (grownCap w (n + m) cap 5), w.drew.alloc (.cells (xs.toArray ++ (List.replicate m (Value.int .u8 0)).toArray ++ Builtin.zeroCells #[Value.int .u8 0] (grownCap w (n + m) cap 5 - (n + m))) 5), ?_, ⟨hlen, .inr ⟨w.heap.size, _, _, rfl, hbase, heap_alloc_new w.drew _, hge, hcm2, ?_, ?_⟩⟩, ⟨rfl, rfl, rfl, by simp, fun k hk _ => Below.heap_alloc w.drew _ k hk⟩⟩
      · simp [Builtin.append_, run_underlying ht, run_underlying hti, asInt, asIntOf, sizeOf, typeInfo, zeroValue, hi0, hz0, hz1, hz2, hw, hm0, hm48, hroom, hm1, h48', h63', Question.forced, hfo, newRow, grownCap, Value.cells, zeroCells_one]
      · have h1 := hown.1
        simp [Builtin.zeroCells]
        omega
      · simp only [Array.toList_append, List.append_assoc]
        rw [← List.append_assoc, ← hlen]
        exact List.take_left
theorem read_sd {base : Nat} {w : World} {P : Nat} {d : Dk.D} (h : SD base w P d) (hst : d.st.length ≤ 1048576) (j : Nat) (hj : j < d.n) : Calls Tryd.prog 76 #[.pointer (some ⟨P, 0, none⟩), .int .i64 (j : Int)] w (ReadPost w (Dk.seen j (Dk.blk d.kept j) d.st)) := by
  obtain ⟨a, rfl, h1, h2, _⟩ := h
  exact read_any w a d j h1 h2 hj hst
theorem staged_sd {base : Nat} {w : World} {P : Nat} {d : Dk.D} (h : SD base w P d) : Calls Tryd.prog 19 #[.pointer (some ⟨P, 0, none⟩)] w fun e w' => e = .returned (.int .i64 d.st.length) ∧ w = w' := by
  obtain ⟨a, rfl, h1, _, _⟩ := h
  exact staged_any w a d h1
theorem made_sd {base : Nat} {w w' : World} {d : Dk.D} {e : Ending} (hb : base ≤ w.heap.size) (h : MadePost w d e w') : ∃ P, e = .returned (.pointer (some ⟨P, 0, none⟩)) ∧ SD base w' P d ∧ Below w.heap.size w w' := by
  obtain ⟨P, e1, ⟨a, h0, h1, h2, h3⟩, h4⟩ := h.sd
  exact ⟨P, e1, ⟨a, h0, h1, h2, fun x hx => Nat.le_trans hb (h3 x hx)⟩, h4⟩
theorem new_n (m : Nat) (h : m ≤ 512) : (Dk.new (m : Int)).n = m := by show (min (max (m : Int) 0) 512).toNat = m; omega
theorem wpList_append_zeros {w : World} {ops : Array Oper} {rest : List Oper} {o : Oper} {a : Act} {Q : Exit → Act → World → Prop} (hgd : o.guard = none) (s x : Operand)
    (ho : o.op = .call { callee := .builtin .append, args := #[s, x], argTypes := #[36, 3] })
    (base g n cap m : Nat) (xs : List Value) (hs : a.eval s = .slice (some ⟨g, 0, none⟩) n cap) (hx : a.eval x = .int .i64 (m : Int)) (hown : w.ownsRow base 5 1 (.slice (some ⟨g, 0, none⟩) n cap) n xs) (hnm : n + m ≤ 1048576) (hbase : base ≤ w.heap.size)
    (h : ∀ v' w', w'.ownsRow base 5 1 v' (n + m) (xs ++ List.replicate m (.int .u8 0)) → w.grownBy w' (some g) → wpList Tryd.prog ops Q rest (a.put o.dst v') w') : wpList Tryd.prog ops Q (o :: rest) a w := by
  refine wpList_plain hgd fun K hK => ?_
  obtain ⟨v', w', hr, h2, h3⟩ := run_append_zeros w o.type base g n cap m xs hown hnm hbase
  unfold Oper.wp execOp
  simp only [ho, resolve, invoke, builtin, Sem.run_bind, Sem.run_pure, Result.andThen_ok, List.map_toArray, List.map_cons, List.map_nil, hs, hx, hr]
  exact hK _ _ (h v' w' h2 h3)
theorem bcs_pad (l : List UInt8) : bcs l ++ List.replicate (32 - l.length) (.int .u8 0) = bcs (Dk.pad l) := by
  unfold Dk.pad bcs
  rw [List.map_append, List.map_replicate]
  rfl
theorem cB_in {w : World} {g : Nat} {l : List UInt8} {t : TypeId} (h : w.heap[g]? = some (.cells (cB l) t (0, 0))) : BIn w (some ⟨g, 0, none⟩) l := fun _ =>
  ⟨g, 0, rfl, lt_of_blk' h, fun k hk => by
    rw [Nat.zero_add, cell_of_row w g k _ _ _ h]
    simp [cB, bcs, hk]⟩
theorem own_in {w : World} {base : Nat} {A : Option Addr} {cap n : Nat} {l : List UInt8} (h : w.ownsRow base 5 1 (.slice A n cap) n (bcs l)) : BIn w A l := fun hn => by
  have e : n = l.length := by have := h.1; rw [bcs_len] at this; omega
  subst e
  obtain ⟨g, rfl, h1, _, h2⟩ := own_cell h hn
  exact ⟨g, 0, rfl, h1, fun k hk => by rw [Nat.zero_add]; exact h2 k hk⟩
theorem BIn.keep {w w' : World} {A : Option Addr} {l : List UInt8} (h : BIn w A l) (hb : Below w.heap.size w w') : BIn w' A l := fun hn => by
  obtain ⟨b, off, e, hlt, hc⟩ := h hn
  exact ⟨b, off, e, Nat.lt_of_lt_of_le hlt hb.size, fun k hk => (hb.cell (p := ⟨b, off + k, none⟩) hlt).trans (hc k hk)⟩
theorem own_some {w : World} {base : Nat} {e : TypeId} {size n : Nat} {v : Value} {xs : List Value} (h : w.ownsRow base e size v n xs) (hv : v.ownBlock ≠ none) : ∃ g cap, v = .slice (some ⟨g, 0, none⟩) n cap ∧ base ≤ g ∧ g < w.heap.size := by
  rcases h.2 with ⟨rfl, _⟩ | ⟨g, cap, cur, rfl, hb, hg, _⟩
  · exact absurd rfl hv
  · exact ⟨g, cap, rfl, hb, lt_of_blk' hg⟩
theorem own_keep {w w' : World} {base : Nat} {g cap n : Nat} {xs : List Value} (h : w.ownsRow base 5 1 (.slice (some ⟨g, 0, none⟩) n cap) n xs) (hb : Below w.heap.size w w') : w'.ownsRow base 5 1 (.slice (some ⟨g, 0, none⟩) n cap) n xs :=
  own_block h (fun b hb' => by
    obtain ⟨cur, hc⟩ := own_lt h b hb'
    exact hb.block b (lt_of_blk' hc))
/-- A disk in block base or later, none of whose blocks is one of X. -/
def SE (X : List Nat) (base : Nat) (w : World) (P : Nat) (d : Dk.D) : Prop := ∃ a : Mm, a.P = P ∧ DAt w a d ∧ There w a ∧ (∀ x ∈ a.F, base ≤ x) ∧ ∀ x ∈ X, x < w.heap.size ∧ x ∉ a.F
def SameX (X : List Nat) (w w' : World) : Prop := ∀ x ∈ X, w'.heap[x]? = w.heap[x]?
theorem SE.sd {X : List Nat} {base : Nat} {w : World} {P : Nat} {d : Dk.D} (h : SE X base w P d) : SD base w P d := by
  obtain ⟨a, p, h1, h2, h3, _⟩ := h
  exact ⟨a, p, h1, h2, h3⟩
theorem SD.se {base : Nat} {w : World} {P : Nat} {d : Dk.D} (h : SD base w P d) : SE [] base w P d := by
  obtain ⟨a, p, h1, h2, h3⟩ := h
  exact ⟨a, p, h1, h2, h3, fun x hx => by cases hx⟩
/-- A block that is made beside the disk is none of its. -/
theorem SE.add {X : List Nat} {base : Nat} {w w' : World} {P : Nat} {d : Dk.D} (h : SE X base w P d) (hb : Below w.heap.size w w') (Y : List Nat) (hY : ∀ y ∈ Y, w.heap.size ≤ y ∧ y < w'.heap.size) : SE (Y ++ X) base w' P d ∧ SameX X w w' := by
  obtain ⟨a, p, h1, h2, h3, h4⟩ := h
  refine ⟨⟨a, p, h1.same (fun b hb' => hb.block b (h2.all b hb')), h2.more hb.size, h3, fun x hx => ?_⟩, fun x hx => hb.block x (h4 x hx).1⟩
  rcases List.mem_append.1 hx with hx | hx
  · exact ⟨(hY x hx).2, fun hm => by have := h2.all x hm; have := (hY x hx).1; omega⟩
  · exact ⟨Nat.lt_of_lt_of_le (h4 x hx).1 hb.size, (h4 x hx).2⟩
theorem SE.keep {X : List Nat} {base : Nat} {w w' : World} {P : Nat} {d : Dk.D} (h : SE X base w P d) (hb : Below w.heap.size w w') : SE X base w' P d ∧ SameX X w w' := h.add hb [] (fun y hy => by cases hy)
theorem Step.se {X : List Nat} {w w' : World} {a : Mm} {d' : Dk.D} {base : Nat} (h : Step w a d' w') (hF : ∀ x ∈ a.F, base ≤ x) (hb : base ≤ w.heap.size) (hX : ∀ x ∈ X, x < w.heap.size ∧ x ∉ a.F) : SE X base w' a.P d' ∧ Below base w w' ∧ SameX X w w' := by
  obtain ⟨a', p, _, at', t', o, f⟩ := h
  refine ⟨⟨a', p, at', t', fun x hx => ?_, fun x hx => ⟨Nat.lt_of_lt_of_le (hX x hx).1 o.size, fun hm => ?_⟩⟩, o.below hF hb, fun x hx => o.block x (hX x hx).1 (hX x hx).2⟩
  · rcases f x hx with h | h
    · exact hF x h
    · exact Nat.le_trans hb h
  · rcases f x hm with h | h
    · exact (hX x hx).2 h
    · have := (hX x hx).1
      omega
theorem SameX.trans {X : List Nat} {a b c : World} (h : SameX X a b) (k : SameX X b c) : SameX X a c := fun x hx => (k x hx).trans (h x hx)
theorem SameX.refl (X : List Nat) (a : World) : SameX X a a := fun _ _ => rfl
theorem SameX.sub {X Y : List Nat} {a b : World} (h : SameX X a b) (hs : ∀ x ∈ Y, x ∈ X) : SameX Y a b := fun x hx => h x (hs x hx)
theorem BIn.sameX {w w' : World} {A : Option Addr} {l : List UInt8} (h : BIn w A l) (hs : SameX (blkOf A) w w') (hz : w.heap.size ≤ w'.heap.size) : BIn w' A l := fun hn => by
  obtain ⟨b, off, rfl, hlt, hc⟩ := h hn
  exact ⟨b, off, rfl, Nat.lt_of_lt_of_le hlt hz, fun k hk => (World.cell?_of_block (w := w) (w' := w') (a := ⟨b, off + k, none⟩) (hs b (by simp [blkOf]))).trans (hc k hk)⟩
def IntSE (X : List Nat) (base : Nat) (w : World) (P : Nat) (x : Int) (d' : Dk.D) (e : Ending) (w' : World) : Prop := e = .returned (.int .i64 x) ∧ SE X base w' P d' ∧ Below base w w' ∧ SameX X w w'
def NoSE (X : List Nat) (base : Nat) (w : World) (P : Nat) (d' : Dk.D) (e : Ending) (w' : World) : Prop := e = .returned (.tuple #[]) ∧ SE X base w' P d' ∧ Below base w w' ∧ SameX X w w'
section
variable {X : List Nat} {base : Nat} {w : World} {P : Nat} {d : Dk.D}
theorem write_se (h : SE X base w P d) (hb : base ≤ w.heap.size) (hst : d.st.length ≤ 1048575) (i : Int) (A : Option Addr) (cap : Nat) (l : List UInt8) (hl : l.length ≤ 9223372036854775807) (hA : BInB w base A l) :
    Calls Tryd.prog 97 #[.pointer (some ⟨P, 0, none⟩), .int .i64 i, .slice A l.length cap] w (IntSE X base w P (d.writeE i l) (d.write i l)) := by
  obtain ⟨a, rfl, h1, h2, h3, h4⟩ := h
  refine (write_any w a d i A cap l h1 h2 hst hl (hA.bin hb) (fun hn ad e hx => ?_)).mono ?_
  · obtain ⟨b, off, e2, hlt, _⟩ := hA hn
    have h5 := h3 _ hx
    rw [e] at e2
    injection e2 with e2
    rw [e2] at h5
    dsimp only at h5
    omega
  · rintro e w' ⟨rfl, hs⟩
    exact ⟨rfl, hs.se h3 hb h4⟩
theorem sync_se (h : SE X base w P d) (hb : base ≤ w.heap.size) (hst : d.st.length ≤ 1048576) :
    Calls Tryd.prog 95 #[.pointer (some ⟨P, 0, none⟩)] w (IntSE X base w P d.syncE d.sync) := by
  obtain ⟨a, rfl, h1, h2, h3, h4⟩ := h
  exact (sync_any w a d h1 h2 hst).mono (by rintro e w' ⟨rfl, hs⟩; exact ⟨rfl, hs.se h3 hb h4⟩)
theorem faults_se (h : SE X base w P d) (hb : base ≤ w.heap.size) (A : Option Addr) (cap : Nat) (p : List Bool) (hp : PlanIn w A cap p) : Calls Tryd.prog 33 #[.pointer (some ⟨P, 0, none⟩), .slice A p.length cap] w (NoSE X base w P { d with plan := p }) := by
  obtain ⟨a, rfl, h1, h2, h3, h4⟩ := h
  exact (faults_any w a d A cap p h1 h2 hp).mono (by rintro e w' ⟨rfl, hs⟩; exact ⟨rfl, hs.se h3 hb h4⟩)
theorem crash_se (h : SE X base w P d) (hb : base ≤ w.heap.size) (hst : d.st.length ≤ 1048576) (A : Option Addr) (cap : Nat) (l : List UInt8) (hl : l.length ≤ 9223372036854775807) (hA : BInB w base A l) :
    Calls Tryd.prog 28 #[.pointer (some ⟨P, 0, none⟩), .slice A l.length cap] w (NoSE X base w P (d.crash l)) := by
  obtain ⟨a, rfl, h1, h2, h3, h4⟩ := h
  refine (crash_any w a d A cap l h1 h2 hst hl (hA.bin hb) (fun hn ad e hx => ?_)).mono ?_
  · obtain ⟨b, off, e2, hlt, _⟩ := hA hn
    have h5 := h3 _ hx
    rw [e] at e2
    injection e2 with e2
    rw [e2] at h5
    dsimp only at h5
    omega
  · rintro e w' ⟨rfl, hs⟩
    exact ⟨rfl, hs.se h3 hb h4⟩
end
/-- What Bytes answers lies in blocks of its own. -/
theorem byrow_new {w w' : World} {A : Option Addr} {c : Nat} {l : List UInt8} (h : w'.ownsRow w.heap.size 5 1 (.slice A l.length c) l.length (bcs l)) : ∀ y ∈ blkOf A, w.heap.size ≤ y ∧ y < w'.heap.size := by
  obtain ⟨A', cap, e, _, _, _, hb⟩ := own_form h
  injection e with e1 _ _
  rw [e1]
  exact fun y hy => ⟨(hb y hy).1, (hb y hy).2.1⟩
theorem on_sd {base : Nat} {w : World} {P : Nat} {d : Dk.D} (h : SD base w P d) : Calls Tryd.prog 62 #[.pointer (some ⟨P, 0, none⟩)] w fun e w' => e = .returned (.bool d.on) ∧ w = w' := by
  obtain ⟨a, rfl, h1, _, _⟩ := h
  exact on_any w a d h1
theorem len_sd {base : Nat} {w : World} {P : Nat} {d : Dk.D} (h : SD base w P d) : Calls Tryd.prog 42 #[.pointer (some ⟨P, 0, none⟩)] w fun e w' => e = .returned (.int .i64 d.n) ∧ w = w' := by
  obtain ⟨a, rfl, h1, _, _⟩ := h
  exact len_any w a d h1
theorem bytes_sd {base : Nat} {w : World} {P : Nat} {d : Dk.D} (h : SD base w P d) : Calls Tryd.prog 57 #[.pointer (some ⟨P, 0, none⟩)] w (BytesPost w d.kept) := by
  obtain ⟨a, rfl, h1, h2, _⟩ := h
  exact bytes_any w a d h1 h2
theorem SD.ok {base : Nat} {w : World} {P : Nat} {d : Dk.D} (h : SD base w P d) : Dk.Ok d := by
  obtain ⟨a, rfl, h1, _, _⟩ := h
  exact h1.ok
theorem SD.base {base base' : Nat} {w : World} {P : Nat} {d : Dk.D} (h : SD base' w P d) (hb : base ≤ base') : SD base w P d := by
  obtain ⟨a, p, h1, h2, h3⟩ := h
  exact ⟨a, p, h1, h2, fun x hx => Nat.le_trans hb (h3 x hx)⟩
namespace Dk
theorem off_sync {d : D} (h : d.left = 0) : d.syncE = 21 ∧ d.sync = d := by
  unfold D.syncE D.sync
  rw [bad_off d h, asked_off d h]
  exact ⟨rfl, rfl⟩
theorem off_drop {d : D} (h : d.left = 0) : d.drop = d := by unfold D.drop; rw [if_pos h]
theorem off_write {d : D} (h : d.left = 0) (i : Int) (b : Bytes) (hb : b.length ≤ 32) : d.writeE i b ≠ 0 ∧ d.write i b = d := by
  unfold D.writeE D.write
  have g2 : ¬ 32 < b.length := by omega
  rw [if_neg g2, if_neg g2, bad_off d h, asked_off d h]
  split
  · exact ⟨by omega, rfl⟩
  · exact ⟨by show (21 : Int) ≠ 0; omega, rfl⟩
theorem plan_sync {d : D} (r : List Bool) (h1 : d.left = -1) (h2 : d.plan = true :: r) : d.syncE = 21 ∧ d.sync = { d with plan := r } := by
  have e1 : d.bad = true := by rw [bad_on d (by omega), h2]; rfl
  have e2 : d.asked = { d with plan := r } := by
    rw [asked_on d (by omega), h2, h1]
    unfold tick
    rw [if_neg (by omega), ← h1]
    rfl
  unfold D.syncE D.sync
  rw [e1, e2]
  exact ⟨rfl, rfl⟩
theorem plan_write {d : D} (q : Bool) (r : List Bool) (h1 : d.left = -1) (h2 : d.plan = q :: r) (i : Int) (b : Bytes) (hb : b.length ≤ 32) (hi : 0 ≤ i ∧ i < (d.n : Int)) :
    d.writeE i b = (if q then 21 else 0) ∧ d.write i b = (if q then { d with plan := r } else { d with plan := r, st := d.st ++ [(i.toNat, pad b)] }) := by
  have e1 : d.bad = q := by rw [bad_on d (by omega), h2]; rfl
  have e2 : d.asked = { d with plan := r } := by
    rw [asked_on d (by omega), h2, h1]
    unfold tick
    rw [if_neg (by omega), ← h1]
    rfl
  have g1 : ¬ (i < 0 ∨ (d.n : Int) ≤ i) := by omega
  have g2 : ¬ 32 < b.length := by omega
  unfold D.writeE D.write
  rw [if_neg g1, if_neg g1, if_neg g2, if_neg g2, e1, e2]
  exact ⟨rfl, rfl⟩
theorem bad_write {d : D} (i : Int) (b : Bytes) (hi : i < 0 ∨ (d.n : Int) ≤ i) : d.writeE i b = 4 ∧ d.write i b = d := by
  unfold D.writeE D.write
  rw [if_pos hi, if_pos hi]
  exact ⟨rfl, rfl⟩
end Dk
theorem own_cap {w : World} {base : Nat} {e : TypeId} {size n c : Nat} {A : Option Addr} {xs : List Value} (h : w.ownsRow base e size (.slice A n c) n xs) : n ≤ c ∧ c ≤ 9223372036854775807 := by
  obtain ⟨_, cp, e, h1, h2, _, _⟩ := own_form h
  injection e with _ _ e
  rw [← e] at h1 h2
  exact ⟨h1, by unfold maxLen at h2; omega⟩
theorem below_drewN {B : Nat} {a w : World} (h : Below B a w) (n : Nat) : Below B a (w.drewN n) := ⟨h.os, h.tape, h.output, h.size, h.block⟩
namespace Dk
theorem crash_none (d : D) : d.crash [] = ⟨d.n, d.kept, [], [], -1⟩ := by
  unfold D.crash
  rw [layCut_end [] d.st 0 d.kept (by simp)]
end Dk
theorem crash_nil_sd {base : Nat} {w : World} {P : Nat} {d : Dk.D} (h : SD base w P d) (hb : base ≤ w.heap.size) (hst : d.st.length ≤ 1048576) :
    Calls Tryd.prog 28 #[.pointer (some ⟨P, 0, none⟩), .slice none 0 0] w (NoSD base w P ⟨d.n, d.kept, [], [], -1⟩) := by
  have := crash_sd h hb hst none 0 [] (by simp) (fun h => absurd h (by simp))
  rw [Dk.crash_none] at this
  exact this
end Go.Proofs.YtfceljbmdcbciaaDoor
