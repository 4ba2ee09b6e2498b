/- What the call Open of package disk does, for any bytes. No condition. -/
import Derived.Test.YtoaadallbpelbaaDkE
namespace Go.Proofs.Ytoaadallbpelbaa
set_option maxRecDepth 8000
open Go.RowKit

namespace Dk
/-- The first k blocks of b, and zeros. -/
def part (b : Bytes) (n k : Nat) : Bytes := b.take (32 * k) ++ List.replicate (32 * (n - k)) 0
theorem part_len (b : Bytes) (n k : Nat) (hk : k ≤ n) (hn : 32 * n ≤ b.length) : (part b n k).length = 32 * n := by
  unfold part
  rw [List.length_append, List.length_take, List.length_replicate, Nat.min_eq_left (by omega)]
  omega
theorem part_zero (b : Bytes) (n : Nat) : part b n 0 = List.replicate (32 * n) 0 := by simp [part]
theorem part_all (b : Bytes) (n : Nat) : part b n n = b.take (32 * n) := by simp [part]
theorem blk_len2 (b : Bytes) (n k : Nat) (hk : k < n) (hn : 32 * n ≤ b.length) : (blk b k).length = 32 := by unfold blk; rw [List.length_take, List.length_drop]; omega
theorem part_succ (b : Bytes) (n k : Nat) (hk : k < n) (hn : 32 * n ≤ b.length) : lay (part b n k) (k, blk b k) 32 = part b n (k + 1) := by
  have hb := blk_len2 b n k hk hn
  have hl := part_len b n k (by omega) hn
  apply List.ext_getElem?
  intro q
  rw [lay_get (N := n) hl hk hb (Nat.le_refl _)]
  have hp : ∀ m, m ≤ n → (part b n m)[q]? = if q < 32 * m then b[q]? else if q < 32 * n then some 0 else none := fun m hm => by
    unfold part
    by_cases h : q < 32 * m
    · rw [if_pos h, List.getElem?_append_left (by rw [List.length_take]; omega), List.getElem?_take, if_pos h]
    · rw [if_neg h, List.getElem?_append_right (by rw [List.length_take]; omega), List.length_take, Nat.min_eq_left (by omega), List.getElem?_replicate]
      by_cases h2 : q < 32 * n
      · rw [if_pos (by omega), if_pos h2]
      · rw [if_neg (by omega), if_neg h2]
  rw [hp k (by omega), hp (k + 1) (by omega)]
  by_cases h1 : 32 * k ≤ q ∧ q < 32 * k + 32
  · rw [if_pos (show 32 * (k, blk b k).1 ≤ q ∧ q < 32 * (k, blk b k).1 + 32 from h1), if_pos (by omega)]
    show (blk b k)[q - 32 * k]? = _
    rw [blk_get, if_pos (by omega)]
    congr 1
    omega
  · rw [if_neg (show ¬ (32 * (k, blk b k).1 ≤ q ∧ q < 32 * (k, blk b k).1 + 32) from h1)]
    by_cases h2 : q < 32 * k
    · rw [if_pos h2, if_pos (by omega)]
    · have h3 : ¬ q < 32 * (k + 1) := by omega
      rw [if_neg h2, if_neg h3]
end Dk

set_option maxHeartbeats 3200000 in
theorem open_any (w : World) (A : Option Addr) (cap : Nat) (b : List UInt8) (hA : BIn w A b) (hl : b.length ≤ cap) (hc : cap ≤ 9223372036854775807) :
    Calls Try.prog 27 #[.slice A b.length cap] w (MadePost w (Dk.opened b)) := by
  obtain ⟨L, hL⟩ : ∃ L, L = b.length := ⟨_, rfl⟩
  rw [← hL] at hl ⊢
  have HL := Lib.hid hL
  obtain ⟨m, hm⟩ : ∃ m, m = L / 32 := ⟨_, rfl⟩
  have hm1 : (L : Int) / 32 = (m : Int) := by omega
  have hm2 : (L : Int).tdiv 32 = (m : Int) := by rw [Int.tdiv_eq_ediv_of_nonneg (by omega)]; exact hm1
  have hNew := new_any w (m : Int)
  obtain ⟨n, hn⟩ : ∃ n, n = min m 512 := ⟨_, rfl⟩
  have hd0 : Dk.new (m : Int) = ⟨n, List.replicate (32 * n) 0, [], [], -1⟩ := by
    unfold Dk.new
    have e : (min (max (m : Int) 0) 512).toNat = n := by omega
    rw [e]
  have hdo : Dk.opened b = ⟨n, b.take (32 * n), [], [], -1⟩ := by
    unfold Dk.opened
    rw [← hL, ← hm, ← hn]
  have hnL : 32 * n ≤ L := by omega
  have hn512 : n ≤ 512 := by omega
  rw [hd0] at hNew
  rw [hdo]
  have HAI := Lib.hid hA
  have hL0 : (0 : Int) ≤ (L : Int) := by omega
  clear hd0 hdo hm hn hL hA
  go_enter Try.func27, Try.ntmps27
  go_wp2_with fail
  refine hNew.mono ?_
  rintro e w2 ⟨a, rfl, hat, ht, hb2, hF⟩
  obtain ⟨P, hP⟩ : ∃ P, P = a.P := ⟨_, rfl⟩
  obtain ⟨kb, hkb⟩ : ∃ kb, kb = a.k := ⟨_, rfl⟩
  have c0 := hat.c.1
  dsimp only at c0
  rw [← hP, ← hkb] at c0
  rw [← hP]
  have HP := Lib.hid hP
  have HKB := Lib.hid hkb
  have HB2 := Lib.hid hb2
  have HFF := Lib.hid hF
  have HM0 : Mid w2 a ⟨n, List.replicate (32 * n) 0, [], [], -1⟩ (Dk.part b n 0) w2 := by rw [Dk.part_zero]; exact ⟨hat, ht, Out.refl _ _⟩
  clear hNew hP hkb hat ht hb2 hF
  go_wp2_with fail
  clear c0
  go_loopw [14] (fun iv wr => ∃ k : Nat, k ≤ n ∧ iv = .int .i64 k ∧ Mid w2 a ⟨n, List.replicate (32 * n) 0, [], [], -1⟩ (Dk.part b n k) wr) (fun iv _ => n - (intOf iv).toNat)
  case atStart => exact ⟨0, Nat.zero_le _, rfl, HM0⟩
  case round =>
    obtain ⟨k, hk, rfl, hmid⟩ := hrel
    by_cases hlt : k < n
    · have hbl : 32 * n ≤ b.length := by have := HL.out; omega
      have HSN := Lib.hid (Dk.part_succ b n k hlt hbl)
      have HNL := Lib.hid (Dk.part_len b n (k + 1) (by omega) hbl)
      have hy := Dk.blk_len2 b n k hlt hbl
      have hkpl := Dk.part_len b n k (by omega) hbl
      obtain ⟨bb, off, rfl, hbb, hcell⟩ := HAI.out (by omega)
      have hbb2 : bb < w2.heap.size := Nat.lt_of_lt_of_le hbb HB2.out.size
      have hbk : bb ≠ a.k := fun e => by
        have h1 := HFF.out a.k ((mem_F a _).2 (.inr (.inl rfl)))
        omega
      obtain ⟨k32, hk32⟩ : ∃ k32, k32 = k * 32 := ⟨_, rfl⟩
      have HSRC0 : ∀ j v, (bcs (Dk.blk b k))[j]? = some v → wr.drew.cell? ((⟨bb, off + k32, none⟩ : Addr).add j) = some v := fun j v hv => by
        have hj : j < 32 := by have := (List.getElem?_eq_some_iff.1 hv).1; rw [bcs_len, hy] at this; exact this
        have hkj : k32 + j < b.length := by omega
        rw [Addr.add_mid, Nat.add_assoc]
        have e1 : wr.drew.cell? ⟨bb, off + (k32 + j), none⟩ = w.cell? ⟨bb, off + (k32 + j), none⟩ := by
          rw [show wr.drew.cell? ⟨bb, off + (k32 + j), none⟩ = wr.cell? ⟨bb, off + (k32 + j), none⟩ from rfl]
          rw [World.cell?_of_block (w := w2) (w' := wr) (a := ⟨bb, off + (k32 + j), none⟩) (hmid.2.2.block bb hbb2 (by simpa using hbk))]
          exact HB2.out.cell (p := ⟨bb, off + (k32 + j), none⟩) hbb
        rw [e1, hcell _ hkj, ← hv]
        have e2 : (Dk.blk b k)[j]? = b[32 * k + j]? := by rw [Dk.blk_get, if_pos hj]
        simp only [bcs, List.getElem?_map, e2]
        rw [show 32 * k + j = k32 + j by omega, List.getElem?_eq_getElem hkj]
        rfl
      obtain ⟨y, hyy⟩ : ∃ y, y = Dk.blk b k := ⟨_, rfl⟩
      rw [← hyy] at HSRC0 HSN hy
      have HSRC := Lib.hid HSRC0
      have HY := Lib.hid hy
      obtain ⟨kp, hkp⟩ : ∃ kp, kp = Dk.part b n k := ⟨_, rfl⟩
      rw [← hkp] at hmid HSN hkpl
      have HFIT : Hid (k * 32 + 32 ≤ kp.length) := Lib.hid (by omega)
      have hmin32 : 32 ≤ L - k32 := by omega
      have hk0 : (0 : Int) ≤ (k : Int) := by omega
      have hkI : (k : Int) < (n : Int) := by omega
      have p0 := hmid.1.c.1
      have HKP := Lib.hid hmid.1.kept
      have hPk := hmid.1.Pk
      dsimp only at p0 HKP
      rw [← HP.out, ← HKB.out] at p0 hPk
      rw [← HKB.out] at HKP
      have HMID := Lib.hid hmid
      have kp0 : ∀ u, (wr.drew.setRow kb u).cell? ⟨P, 0, none⟩ = wr.drew.cell? ⟨P, 0, none⟩ := fun u => World.cell?_of_block (w := wr.drew) (a := ⟨P, 0, none⟩) (setRow_other wr.drew kb P u hPk)
      have hm3 : (k : Int) * 32 = (k32 : Int) := by omega
      have hk32a : (0 : Int) ≤ (k32 : Int) := by omega
      have hk32b : (k32 : Int) ≤ (L : Int) := by omega
      have hw32 : IntKind.i64.wrap (k32 : Int) = (k32 : Int) := IntWalk.i64_in _ (by omega)
      have hcapne : ¬ cap = k32 := by omega
      have hLI : (L : Int) ≤ (cap : Int) := by omega
      have HLAY : Hid ((Dk.lay kp (k, y) 32).length = 32 * n) := Lib.hid (by rw [HSN.out]; exact HNL.out)
      clear hyy hkp hmid hkpl hy HSRC0 hcell hbb hbb2 hbk hk32 hbl
      go_wp2_with fail
      refine wp_region_held_drew (S := fun wx => wx.cell? ⟨P, 0, none⟩ = some (.slice (some ⟨kb, 0, none⟩) n n)) (by kernel_rfl) p0 (fun hHeld => ?_)
      refine wpAnyH_take (i := 0) (oi := ⟨_, _, _, _, _, _⟩) (v := .pointer (some ⟨P, 0, none⟩)) rfl (by kernel_rfl) (by kernel_rfl) (by kernel_rfl) (fun _ _ _ h => h) (Or.inl ⟨by rfl, by intro wx hSw; (try dsimp only at hSw); go_simp⟩) (by assumption) ?_
      simp only [Act.put, List.setIfInBounds_toArray, List.set_cons_zero, List.set_cons_succ]
      refine wpAnyH_take (i := 1) (oi := ⟨_, _, _, _, _, _⟩) (v := .pointer (some ⟨P, 0, none⟩)) rfl (by kernel_rfl) (by kernel_rfl) (by kernel_rfl) (fun _ _ _ h => h) (Or.inl ⟨by rfl, by intro wx hSw; (try dsimp only at hSw); go_simp⟩) (by assumption) ?_
      simp only [Act.put, List.setIfInBounds_toArray, List.set_cons_zero, List.set_cons_succ]
      refine wpAnyH_take (i := 2) (oi := ⟨_, _, _, _, _, _⟩) (v := .pointer (some ⟨P, 0, none⟩)) rfl (by kernel_rfl) (by kernel_rfl) (by kernel_rfl) (fun _ _ _ h => h) (Or.inl ⟨by rfl, by intro wx hSw; (try dsimp only at hSw); go_simp⟩) (by assumption) ?_
      simp only [Act.put, List.setIfInBounds_toArray, List.set_cons_zero, List.set_cons_succ]
      refine wpAnyH_take (i := 3) (oi := ⟨_, _, _, _, _, _⟩) (v := .slice (some ⟨kb, 0, none⟩) n n) rfl (by kernel_rfl) (by kernel_rfl) (by kernel_rfl) (fun _ _ _ h => h) (Or.inl ⟨by rfl, by intro wx hSw; (try dsimp only at hSw); go_simp⟩) (by assumption) ?_
      simp only [Act.put, List.setIfInBounds_toArray, List.set_cons_zero, List.set_cons_succ]
      refine wpAnyH_take (i := 4) (oi := ⟨_, _, _, _, _, _⟩) (v := .int .i64 (k : Int)) rfl (by kernel_rfl) (by kernel_rfl) (by kernel_rfl) (fun _ _ _ h => h) (Or.inl ⟨by rfl, by intro wx hSw; (try dsimp only at hSw); go_simp⟩) (by assumption) ?_
      simp only [Act.put, List.setIfInBounds_toArray, List.set_cons_zero, List.set_cons_succ]
      refine wpAnyH_take (i := 5) (oi := ⟨_, _, _, _, _, _⟩) (v := .pointer (some ⟨kb, k * 32, none⟩)) rfl (by kernel_rfl) (by kernel_rfl) (by kernel_rfl) (fun _ _ _ h => h) (Or.inl ⟨by rfl, by intro wx hSw; (try dsimp only at hSw); go_simp⟩) (by assumption) ?_
      simp only [Act.put, List.setIfInBounds_toArray, List.set_cons_zero, List.set_cons_succ]
      refine wpAnyH_take (i := 6) (oi := ⟨_, _, _, _, _, _⟩) (v := .slice (some ⟨kb, k * 32, none⟩) 32 32) rfl (by kernel_rfl) (by kernel_rfl) (by kernel_rfl) (fun _ _ _ h => h) (Or.inl ⟨by rfl, by intro wx hSw; (try dsimp only at hSw); go_simp⟩) (by assumption) ?_
      simp only [Act.put, List.setIfInBounds_toArray, List.set_cons_zero, List.set_cons_succ]
      refine wpAnyH_take (i := 7) (oi := ⟨_, _, _, _, _, _⟩) (v := .slice (some ⟨bb, off, none⟩) L cap) rfl (by kernel_rfl) (by kernel_rfl) (by kernel_rfl) (fun _ _ _ h => h) (Or.inl ⟨by rfl, by intro wx hSw; (try dsimp only at hSw); go_simp⟩) (by assumption) ?_
      simp only [Act.put, List.setIfInBounds_toArray, List.set_cons_zero, List.set_cons_succ]
      refine wpAnyH_take (i := 8) (oi := ⟨_, _, _, _, _, _⟩) (v := .int .i64 (k : Int)) rfl (by kernel_rfl) (by kernel_rfl) (by kernel_rfl) (fun _ _ _ h => h) (Or.inl ⟨by rfl, by intro wx hSw; (try dsimp only at hSw); go_simp⟩) (by assumption) ?_
      simp only [Act.put, List.setIfInBounds_toArray, List.set_cons_zero, List.set_cons_succ]
      refine wpAnyH_take (i := 9) (oi := ⟨_, _, _, _, _, _⟩) (v := .int .i64 (k32 : Int)) rfl (by kernel_rfl) (by kernel_rfl) (by kernel_rfl) (fun _ _ _ h => h) (Or.inl ⟨by rfl, by intro wx hSw; (try dsimp only at hSw); go_simp⟩) (by assumption) ?_
      simp only [Act.put, List.setIfInBounds_toArray, List.set_cons_zero, List.set_cons_succ]
      refine wpAnyH_take (i := 10) (oi := ⟨_, _, _, _, _, _⟩) (v := .slice (some ⟨bb, off + k32, none⟩) (L - k32) (cap - k32)) rfl (by kernel_rfl) (by kernel_rfl) (by kernel_rfl) (fun _ _ _ h => h) (Or.inl ⟨by rfl, by intro wx hSw; (try dsimp only at hSw); go_simp⟩) (by assumption) ?_
      simp only [Act.put, List.setIfInBounds_toArray, List.set_cons_zero, List.set_cons_succ]
      refine wpAnyH_ready (rs := [11]) (by kernel_rfl) (by simp) ?_
      refine AllReadyH.cons (o := ⟨_, _, _, _, _, _⟩) rfl (fun K hK => ?_) AllReadyH.nil
      rw [if_pos (by rfl)]
      refine wp_copy_splice1 (.tmp 23) (.tmp 27) 29 29 rfl 5 Try.underlying29 (by kernel_rfl) kb (k * 32) 32 32 ⟨bb, off + k32, none⟩ (L - k32) (cap - k32) rfl rfl (bcs kp) 66 HKP.out (bcs y) (by rw [bcs_len, HY.out]; exact (Nat.min_eq_right hmin32).symm) HSRC.out (by rw [bcs_len, bcs_len, HY.out]; exact HFIT.out) (bcs_one _) ?_
      refine hK.out _ _ ((kp0 _).trans p0) (fun hHeld => ?_)
      clear hK K
      simp only [Act.put, List.setIfInBounds_toArray, List.set_cons_zero, List.set_cons_succ]
      refine wpAnyH_done (by kernel_rfl) ?_ _
      clear hHeld p0 kp0
      have HM3 : Hid (Mid w2 a ⟨n, List.replicate (32 * n) 0, [], [], -1⟩ (Dk.lay kp (k, y) 32) (wr.drew.setRow kb (splice (bcs kp) (k * 32) (bcs y)).toArray)) := Lib.hid (by
        have e : splice (bcs kp) (k * 32) (bcs y) = bcs (Dk.lay kp (k, y) 32) := by
          rw [← lay_cells, List.take_of_length_le (by rw [HY.out]; exact Nat.le_refl _)]
        rw [e, HKB.out]
        exact HMID.out.drew.set HLAY.out)
      go_wp2
      go_roundw
      case rel => exact ⟨k + 1, by omega, by go_num, by rw [← HSN.out]; exact HM3.out⟩
      case measure => simp [intOf]; omega
    · have hkI : ¬ (k : Int) < (n : Int) := by omega
      have HE : Hid (MadePost w ⟨n, b.take (32 * n), [], [], -1⟩ (.returned (.pointer (some ⟨P, 0, none⟩))) wr) := Lib.hid (by
        rw [show k = n by omega, Dk.part_all] at hmid
        rw [HP.out]
        refine ⟨a, rfl, hmid.1, hmid.2.1, HB2.out.trans (hmid.2.2.below (fun x hx => ?_) HB2.out.size), HFF.out⟩
        rw [List.mem_singleton] at hx
        rw [hx]
        exact HFF.out _ ((mem_F a _).2 (.inr (.inl rfl))))
      clear hmid
      go_wp2_with fail
      go_ret
      exact HE.out
end Go.Proofs.Ytoaadallbpelbaa
