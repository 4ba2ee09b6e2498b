/- What the call Open of package disk does, for any bytes. No condition. How a disk of the document's own answer lies in memory, and what its calls New, Open and Len do. No condition. -/
import Derived.Test.YtkmljbbnpjlehaaDoorMg16
namespace Go.Proofs.YtkmljbbnpjlehaaDoor
set_option maxRecDepth 8000
open Go.RowKit

namespace Dk
/-- The first k blocks of b, and zeros. -/
def part (b : Bytes) (n k : Nat) : Bytes := b.take (32 * k) ++ List.replicate (32 * (n - k)) 0
theorem part_len (b : Bytes) (n k : Nat) (hk : k ≤ n) (hn : 32 * n ≤ b.length) : (part b n k).length = 32 * n := by
  unfold part
  rw [List.length_append, List.length_take, List.length_replicate, Nat.min_eq_left (by omega)]
  omega
theorem part_zero (b : Bytes) (n : Nat) : part b n 0 = List.replicate (32 * n) 0 := by simp [part]
theorem part_all (b : Bytes) (n : Nat) : part b n n = b.take (32 * n) := by simp [part]
theorem blk_len2 (b : Bytes) (n k : Nat) (hk : k < n) (hn : 32 * n ≤ b.length) : (blk b k).length = 32 := by unfold blk; rw [List.length_take, List.length_drop]; omega
theorem part_succ (b : Bytes) (n k : Nat) (hk : k < n) (hn : 32 * n ≤ b.length) : lay (part b n k) (k, blk b k) 32 = part b n (k + 1) := by
  have hb := blk_len2 b n k hk hn
  have hl := part_len b n k (by omega) hn
  apply List.ext_getElem?
  intro q
  rw [lay_get (N := n) hl hk hb (Nat.le_refl _)]
  have hp : ∀ m, m ≤ n → (part b n m)[q]? = if q < 32 * m then b[q]? else if q < 32 * n then some 0 else none := fun m hm => by
    unfold part
    by_cases h : q < 32 * m
    · rw [if_pos h, List.getElem?_append_left (by rw [List.length_take]; omega), List.getElem?_take, if_pos h]
    · rw [if_neg h, List.getElem?_append_right (by rw [List.length_take]; omega), List.length_take, Nat.min_eq_left (by omega), List.getElem?_replicate]
      by_cases h2 : q < 32 * n
      · rw [if_pos (by omega), if_pos h2]
      · rw [if_neg (by omega), if_neg h2]
  rw [hp k (by omega), hp (k + 1) (by omega)]
  by_cases h1 : 32 * k ≤ q ∧ q < 32 * k + 32
  · rw [if_pos (show 32 * (k, blk b k).1 ≤ q ∧ q < 32 * (k, blk b k).1 + 32 from h1), if_pos (by omega)]
    show (blk b k)[q - 32 * k]? = _
    rw [blk_get, if_pos (by omega)]
    congr 1
    omega
  · rw [if_neg (show ¬ (32 * (k, blk b k).1 ≤ q ∧ q < 32 * (k, blk b k).1 + 32) from h1)]
    by_cases h2 : q < 32 * k
    · rw [if_pos h2, if_pos (by omega)]
    · have h3 : ¬ q < 32 * (k + 1) := by omega
      rw [if_neg h2, if_neg h3]
end Dk

set_option maxHeartbeats 3200000 in
theorem open_any (w : World) (A : Option Addr) (cap : Nat) (b : List UInt8) (hA : BIn w A b) (hl : b.length ≤ cap) (hc : cap ≤ 9223372036854775807) :
    Calls Tryd.prog 28 #[.slice A b.length cap] w (MadePost w (Dk.opened b)) := by
  obtain ⟨L, hL⟩ : ∃ L, L = b.length := ⟨_, rfl⟩
  rw [← hL] at hl ⊢
  have HL := Lib.hid hL
  obtain ⟨m, hm⟩ : ∃ m, m = L / 32 := ⟨_, rfl⟩
  have hm1 : (L : Int) / 32 = (m : Int) := by omega
  have hm2 : (L : Int).tdiv 32 = (m : Int) := by rw [Int.tdiv_eq_ediv_of_nonneg (by omega)]; exact hm1
  have hNew := new_any w (m : Int)
  obtain ⟨n, hn⟩ : ∃ n, n = min m 512 := ⟨_, rfl⟩
  have hd0 : Dk.new (m : Int) = ⟨n, List.replicate (32 * n) 0, [], [], -1⟩ := by
    unfold Dk.new
    have e : (min (max (m : Int) 0) 512).toNat = n := by omega
    rw [e]
  have hdo : Dk.opened b = ⟨n, b.take (32 * n), [], [], -1⟩ := by
    unfold Dk.opened
    rw [← hL, ← hm, ← hn]
  have hnL : 32 * n ≤ L := by omega
  have hn512 : n ≤ 512 := by omega
  rw [hd0] at hNew
  rw [hdo]
  have HAI := Lib.hid hA
  have hL0 : (0 : Int) ≤ (L : Int) := by omega
  clear hd0 hdo hm hn hL hA
  go_enter Tryd.func28, Tryd.ntmps28
  go_wp2_with fail
  refine hNew.mono ?_
  rintro e w2 ⟨a, rfl, hat, ht, hb2, hF⟩
  obtain ⟨P, hP⟩ : ∃ P, P = a.P := ⟨_, rfl⟩
  obtain ⟨kb, hkb⟩ : ∃ kb, kb = a.k := ⟨_, rfl⟩
  have c0 := hat.c.1
  dsimp only at c0
  rw [← hP, ← hkb] at c0
  rw [← hP]
  have HP := Lib.hid hP
  have HKB := Lib.hid hkb
  have HB2 := Lib.hid hb2
  have HFF := Lib.hid hF
  have HM0 : Mid w2 a ⟨n, List.replicate (32 * n) 0, [], [], -1⟩ (Dk.part b n 0) w2 := by rw [Dk.part_zero]; exact ⟨hat, ht, Out.refl _ _⟩
  clear hNew hP hkb hat ht hb2 hF
  go_wp2_with fail
  clear c0
  go_loopw [14] (fun iv wr => ∃ k : Nat, k ≤ n ∧ iv = .int .i64 k ∧ Mid w2 a ⟨n, List.replicate (32 * n) 0, [], [], -1⟩ (Dk.part b n k) wr) (fun iv _ => n - (intOf iv).toNat)
  case atStart => exact ⟨0, Nat.zero_le _, rfl, HM0⟩
  case round =>
    obtain ⟨k, hk, rfl, hmid⟩ := hrel
    by_cases hlt : k < n
    · have hbl : 32 * n ≤ b.length := by have := HL.out; omega
      have HSN := Lib.hid (Dk.part_succ b n k hlt hbl)
      have HNL := Lib.hid (Dk.part_len b n (k + 1) (by omega) hbl)
      have hy := Dk.blk_len2 b n k hlt hbl
      have hkpl := Dk.part_len b n k (by omega) hbl
      obtain ⟨bb, off, rfl, hbb, hcell⟩ := HAI.out (by omega)
      have hbb2 : bb < w2.heap.size := Nat.lt_of_lt_of_le hbb HB2.out.size
      have hbk : bb ≠ a.k := fun e => by
        have h1 := HFF.out a.k ((mem_F a _).2 (.inr (.inl rfl)))
        omega
      obtain ⟨k32, hk32⟩ : ∃ k32, k32 = k * 32 := ⟨_, rfl⟩
      have HSRC0 : ∀ j v, (bcs (Dk.blk b k))[j]? = some v → wr.drew.cell? ((⟨bb, off + k32, none⟩ : Addr).add j) = some v := fun j v hv => by
        have hj : j < 32 := by have := (List.getElem?_eq_some_iff.1 hv).1; rw [bcs_len, hy] at this; exact this
        have hkj : k32 + j < b.length := by omega
        rw [Addr.add_mid, Nat.add_assoc]
        have e1 : wr.drew.cell? ⟨bb, off + (k32 + j), none⟩ = w.cell? ⟨bb, off + (k32 + j), none⟩ := by
          rw [show wr.drew.cell? ⟨bb, off + (k32 + j), none⟩ = wr.cell? ⟨bb, off + (k32 + j), none⟩ from rfl]
          rw [World.cell?_of_block (w := w2) (w' := wr) (a := ⟨bb, off + (k32 + j), none⟩) (hmid.2.2.block bb hbb2 (by simpa using hbk))]
          exact HB2.out.cell (p := ⟨bb, off + (k32 + j), none⟩) hbb
        rw [e1, hcell _ hkj, ← hv]
        have e2 : (Dk.blk b k)[j]? = b[32 * k + j]? := by rw [Dk.blk_get, if_pos hj]
        simp only [bcs, List.getElem?_map, e2]
        rw [show 32 * k + j = k32 + j by omega, List.getElem?_eq_getElem hkj]
        rfl
      obtain ⟨y, hyy⟩ : ∃ y, y = Dk.blk b k := ⟨_, rfl⟩
      rw [← hyy] at HSRC0 HSN hy
      have HSRC := Lib.hid HSRC0
      have HY := Lib.hid hy
      obtain ⟨kp, hkp⟩ : ∃ kp, kp = Dk.part b n k := ⟨_, rfl⟩
      rw [← hkp] at hmid HSN hkpl
      have HFIT : Hid (k * 32 + 32 ≤ kp.length) := Lib.hid (by omega)
      have hmin32 : 32 ≤ L - k32 := by omega
      have hk0 : (0 : Int) ≤ (k : Int) := by omega
      have hkI : (k : Int) < (n : Int) := by omega
      have p0 := hmid.1.c.1
      have HKP := Lib.hid hmid.1.kept
      have hPk := hmid.1.Pk
      dsimp only at p0 HKP
      rw [← HP.out, ← HKB.out] at p0 hPk
      rw [← HKB.out] at HKP
      have HMID := Lib.hid hmid
      have kp0 : ∀ u, (wr.drew.setRow kb u).cell? ⟨P, 0, none⟩ = wr.drew.cell? ⟨P, 0, none⟩ := fun u => World.cell?_of_block (w := wr.drew) (a := ⟨P, 0, none⟩) (setRow_other wr.drew kb P u hPk)
      have hm3 : (k : Int) * 32 = (k32 : Int) := by omega
      have hk32a : (0 : Int) ≤ (k32 : Int) := by omega
      have hk32b : (k32 : Int) ≤ (L : Int) := by omega
      have hw32 : IntKind.i64.wrap (k32 : Int) = (k32 : Int) := IntWalk.i64_in _ (by omega)
      have hcapne : ¬ cap = k32 := by omega
      have hLI : (L : Int) ≤ (cap : Int) := by omega
      have HLAY : Hid ((Dk.lay kp (k, y) 32).length = 32 * n) := Lib.hid (by rw [HSN.out]; exact HNL.out)
      clear hyy hkp hmid hkpl hy HSRC0 hcell hbb hbb2 hbk hk32 hbl
      go_wp2_with fail
      refine wp_region_held_drew (S := fun wx => wx.cell? ⟨P, 0, none⟩ = some (.slice (some ⟨kb, 0, none⟩) n n)) (by kernel_rfl) p0 (fun hHeld => ?_)
      refine wpAnyH_take (i := 0) (oi := ⟨_, _, _, _, _, _⟩) (v := .pointer (some ⟨P, 0, none⟩)) rfl (by kernel_rfl) (by kernel_rfl) (by kernel_rfl) (fun _ _ _ h => h) (Or.inl ⟨by rfl, by intro wx hSw; (try dsimp only at hSw); go_simp⟩) (by assumption) ?_
      simp only [Act.put, List.setIfInBounds_toArray, List.set_cons_zero, List.set_cons_succ]
      refine wpAnyH_take (i := 1) (oi := ⟨_, _, _, _, _, _⟩) (v := .pointer (some ⟨P, 0, none⟩)) rfl (by kernel_rfl) (by kernel_rfl) (by kernel_rfl) (fun _ _ _ h => h) (Or.inl ⟨by rfl, by intro wx hSw; (try dsimp only at hSw); go_simp⟩) (by assumption) ?_
      simp only [Act.put, List.setIfInBounds_toArray, List.set_cons_zero, List.set_cons_succ]
      refine wpAnyH_take (i := 2) (oi := ⟨_, _, _, _, _, _⟩) (v := .pointer (some ⟨P, 0, none⟩)) rfl (by kernel_rfl) (by kernel_rfl) (by kernel_rfl) (fun _ _ _ h => h) (Or.inl ⟨by rfl, by intro wx hSw; (try dsimp only at hSw); go_simp⟩) (by assumption) ?_
      simp only [Act.put, List.setIfInBounds_toArray, List.set_cons_zero, List.set_cons_succ]
      refine wpAnyH_take (i := 3) (oi := ⟨_, _, _, _, _, _⟩) (v := .slice (some ⟨kb, 0, none⟩) n n) rfl (by kernel_rfl) (by kernel_rfl) (by kernel_rfl) (fun _ _ _ h => h) (Or.inl ⟨by rfl, by intro wx hSw; (try dsimp only at hSw); go_simp⟩) (by assumption) ?_
      simp only [Act.put, List.setIfInBounds_toArray, List.set_cons_zero, List.set_cons_succ]
      refine wpAnyH_take (i := 4) (oi := ⟨_, _, _, _, _, _⟩) (v := .int .i64 (k : Int)) rfl (by kernel_rfl) (by kernel_rfl) (by kernel_rfl) (fun _ _ _ h => h) (Or.inl ⟨by rfl, by intro wx hSw; (try dsimp only at hSw); go_simp⟩) (by assumption) ?_
      simp only [Act.put, List.setIfInBounds_toArray, List.set_cons_zero, List.set_cons_succ]
      refine wpAnyH_take (i := 5) (oi := ⟨_, _, _, _, _, _⟩) (v := .pointer (some ⟨kb, k * 32, none⟩)) rfl (by kernel_rfl) (by kernel_rfl) (by kernel_rfl) (fun _ _ _ h => h) (Or.inl ⟨by rfl, by intro wx hSw; (try dsimp only at hSw); go_simp⟩) (by assumption) ?_
      simp only [Act.put, List.setIfInBounds_toArray, List.set_cons_zero, List.set_cons_succ]
      refine wpAnyH_take (i := 6) (oi := ⟨_, _, _, _, _, _⟩) (v := .slice (some ⟨kb, k * 32, none⟩) 32 32) rfl (by kernel_rfl) (by kernel_rfl) (by kernel_rfl) (fun _ _ _ h => h) (Or.inl ⟨by rfl, by intro wx hSw; (try dsimp only at hSw); go_simp⟩) (by assumption) ?_
      simp only [Act.put, List.setIfInBounds_toArray, List.set_cons_zero, List.set_cons_succ]
      refine wpAnyH_take (i := 7) (oi := ⟨_, _, _, _, _, _⟩) (v := .slice (some ⟨bb, off, none⟩) L cap) rfl (by kernel_rfl) (by kernel_rfl) (by kernel_rfl) (fun _ _ _ h => h) (Or.inl ⟨by rfl, by intro wx hSw; (try dsimp only at hSw); go_simp⟩) (by assumption) ?_
      simp only [Act.put, List.setIfInBounds_toArray, List.set_cons_zero, List.set_cons_succ]
      refine wpAnyH_take (i := 8) (oi := ⟨_, _, _, _, _, _⟩) (v := .int .i64 (k : Int)) rfl (by kernel_rfl) (by kernel_rfl) (by kernel_rfl) (fun _ _ _ h => h) (Or.inl ⟨by rfl, by intro wx hSw; (try dsimp only at hSw); go_simp⟩) (by assumption) ?_
      simp only [Act.put, List.setIfInBounds_toArray, List.set_cons_zero, List.set_cons_succ]
      refine wpAnyH_take (i := 9) (oi := ⟨_, _, _, _, _, _⟩) (v := .int .i64 (k32 : Int)) rfl (by kernel_rfl) (by kernel_rfl) (by kernel_rfl) (fun _ _ _ h => h) (Or.inl ⟨by rfl, by intro wx hSw; (try dsimp only at hSw); go_simp⟩) (by assumption) ?_
      simp only [Act.put, List.setIfInBounds_toArray, List.set_cons_zero, List.set_cons_succ]
      refine wpAnyH_take (i := 10) (oi := ⟨_, _, _, _, _, _⟩) (v := .slice (some ⟨bb, off + k32, none⟩) (L - k32) (cap - k32)) rfl (by kernel_rfl) (by kernel_rfl) (by kernel_rfl) (fun _ _ _ h => h) (Or.inl ⟨by rfl, by intro wx hSw; (try dsimp only at hSw); go_simp⟩) (by assumption) ?_
      simp only [Act.put, List.setIfInBounds_toArray, List.set_cons_zero, List.set_cons_succ]
      refine wpAnyH_ready (rs := [11]) (by kernel_rfl) (by simp) ?_
      refine AllReadyH.cons (o := ⟨_, _, _, _, _, _⟩) rfl (fun K hK => ?_) AllReadyH.nil
      rw [if_pos (by rfl)]
      refine wp_copy_splice1 (.tmp 23) (.tmp 27) 36 36 rfl 5 Tryd.underlying36 (by kernel_rfl) kb (k * 32) 32 32 ⟨bb, off + k32, none⟩ (L - k32) (cap - k32) rfl rfl (bcs kp) 121 HKP.out (bcs y) (by rw [bcs_len, HY.out]; exact (Nat.min_eq_right hmin32).symm) HSRC.out (by rw [bcs_len, bcs_len, HY.out]; exact HFIT.out) (bcs_one _) ?_
      refine hK.out _ _ ((kp0 _).trans p0) (fun hHeld => ?_)
      clear hK K
      simp only [Act.put, List.setIfInBounds_toArray, List.set_cons_zero, List.set_cons_succ]
      refine wpAnyH_done (by kernel_rfl) ?_ _
      clear hHeld p0 kp0
      have HM3 : Hid (Mid w2 a ⟨n, List.replicate (32 * n) 0, [], [], -1⟩ (Dk.lay kp (k, y) 32) (wr.drew.setRow kb (splice (bcs kp) (k * 32) (bcs y)).toArray)) := Lib.hid (by
        have e : splice (bcs kp) (k * 32) (bcs y) = bcs (Dk.lay kp (k, y) 32) := by
          rw [← lay_cells, List.take_of_length_le (by rw [HY.out]; exact Nat.le_refl _)]
        rw [e, HKB.out]
        exact HMID.out.drew.set HLAY.out)
      go_wp2
      go_roundw
      case rel => exact ⟨k + 1, by omega, by go_num, by rw [← HSN.out]; exact HM3.out⟩
      case measure => simp [intOf]; omega
    · have hkI : ¬ (k : Int) < (n : Int) := by omega
      have HE : Hid (MadePost w ⟨n, b.take (32 * n), [], [], -1⟩ (.returned (.pointer (some ⟨P, 0, none⟩))) wr) := Lib.hid (by
        rw [show k = n by omega, Dk.part_all] at hmid
        rw [HP.out]
        refine ⟨a, rfl, hmid.1, hmid.2.1, HB2.out.trans (hmid.2.2.below (fun x hx => ?_) HB2.out.size), HFF.out⟩
        rw [List.mem_singleton] at hx
        rw [hx]
        exact HFF.out _ ((mem_F a _).2 (.inr (.inl rfl))))
      clear hmid
      go_wp2_with fail
      go_ret
      exact HE.out
end Go.Proofs.YtkmljbbnpjlehaaDoor
namespace Go.Proofs.YtkmljbbnpjlehaaDoor
set_option maxRecDepth 8000
open Go.RowKit

/-- Where such a disk lies: its struct, what it keeps, what it stages, its plan, the calls left; the blocks of what it stages. -/
structure Rm where
  P : Nat
  K : Option Addr
  cK : Nat
  S : Option Addr
  cS : Nat
  G : Option Addr
  cG : Nat
  lf : Int
  gs : List Nat
def Rm.F (b : Rm) : List Nat := b.P :: (blkOf b.K ++ (blkOf b.S ++ (blkOf b.G ++ b.gs)))
theorem mem_R (b : Rm) (x : Nat) : x ∈ b.F ↔ x = b.P ∨ x ∈ blkOf b.K ∨ x ∈ blkOf b.S ∨ x ∈ blkOf b.G ∨ x ∈ b.gs := by simp [Rm.F]
def rc1 (at0 : Nat) (g : Nat) : List Value := [.int .i64 (at0 : Int), .slice (some ⟨g, 0, none⟩) 32 32]
def rcs : List (Nat × List UInt8) → List Nat → List Value
  | s :: l, g :: gs => rc1 s.1 g ++ rcs l gs
  | _, _ => []
/-- How many calls are left, as the document's disk counts them. -/
def LfOk (d : Dk.D) (lf : Int) : Prop := 0 ≤ lf ∧ lf ≤ 9223372036854775807 ∧ (d.left ≠ 0 → lf = max 0 d.left)
structure RAt (w : World) (b : Rm) (d : Dk.D) : Prop where
  ok : Dk.Ok d
  disk : w.heap[b.P]? = some (.cells #[.slice b.K d.kept.length b.cK, .slice b.S d.st.length b.cS, .slice b.G d.plan.length b.cG, .bool (decide (d.left = 0)), .int .i64 b.lf] 46 (0, 0))
  kept : w.ownsRow 0 5 1 (.slice b.K d.kept.length b.cK) d.kept.length (bcs d.kept)
  st : w.ownsRow 0 118 2 (.slice b.S d.st.length b.cS) d.st.length (rcs d.st b.gs)
  gl : b.gs.length = d.st.length
  gb : ∀ k (h : k < d.st.length), w.heap[b.gs[k]'(by rw [gl]; exact h)]? = some (.cells (cB d.st[k].2) 5 (0, 0))
  plan : BoC w b.G d.plan
  cap : d.plan.length ≤ b.cG ∧ b.cG ≤ 9223372036854775807
  left : LfOk d b.lf
structure RThere (w : World) (b : Rm) : Prop where
  all : ∀ x ∈ b.F, x < w.heap.size
theorem RAt.same {w w' : World} {b : Rm} {d : Dk.D} (h : RAt w b d) (hs : ∀ x ∈ b.F, w'.heap[x]? = w.heap[x]?) : RAt w' b d where
  ok := h.ok
  disk := (hs b.P ((mem_R b _).2 (.inl rfl))).trans h.disk
  kept := own_block h.kept (fun x hx => hs x ((mem_R b _).2 (.inr (.inl hx))))
  st := own_block h.st (fun x hx => hs x ((mem_R b _).2 (.inr (.inr (.inl hx)))))
  gl := h.gl
  gb := fun k hk => (hs _ ((mem_R b _).2 (.inr (.inr (.inr (.inr (List.getElem_mem _))))))).trans (h.gb k hk)
  plan := h.plan.block (fun x hx => hs x ((mem_R b _).2 (.inr (.inr (.inr (.inl hx))))))
  cap := h.cap
  left := h.left
theorem RThere.more {w w' : World} {b : Rm} (h : RThere w b) (hs : w.heap.size ≤ w'.heap.size) : RThere w' b := ⟨fun x hx => Nat.lt_of_lt_of_le (h.all x hx) hs⟩
theorem RAt.c {w : World} {b : Rm} {d : Dk.D} (h : RAt w b d) : w.cell? ⟨b.P, 0, none⟩ = some (.slice b.K d.kept.length b.cK) ∧ w.cell? ⟨b.P, 1, none⟩ = some (.slice b.S d.st.length b.cS) ∧ w.cell? ⟨b.P, 2, none⟩ = some (.slice b.G d.plan.length b.cG) ∧ w.cell? ⟨b.P, 3, none⟩ = some (.bool (decide (d.left = 0))) ∧ w.cell? ⟨b.P, 4, none⟩ = some (.int .i64 b.lf) :=
  ⟨cell_of_row w _ 0 _ _ _ h.disk, cell_of_row w _ 1 _ _ _ h.disk, cell_of_row w _ 2 _ _ _ h.disk, cell_of_row w _ 3 _ _ _ h.disk, cell_of_row w _ 4 _ _ _ h.disk⟩
theorem RAt.fr {w : World} {b : Rm} {d : Dk.D} (h : RAt w b d) (j : Nat) : w.frozen? ⟨b.P, j, none⟩ = false := frozen_of_row w b.P j _ _ h.disk
def MadeR (w : World) (d : Dk.D) (e : Ending) (w' : World) : Prop :=
  ∃ b : Rm, e = .returned (.pointer (some ⟨b.P, 0, none⟩)) ∧ RAt w' b d ∧ RThere w' b ∧ Below w.heap.size w w' ∧ ∀ x ∈ b.F, w.heap.size ≤ x

theorem own_base {w : World} {base : Nat} {e : TypeId} {size n : Nat} {v : Value} {xs : List Value} (h : w.ownsRow base e size v n xs) : w.ownsRow 0 e size v n xs := by
  refine ⟨h.1, ?_⟩
  rcases h.2 with h | ⟨g, cap, cur, hv, _, r⟩
  · exact .inl h
  · exact .inr ⟨g, cap, cur, hv, Nat.zero_le _, r⟩
theorem made_r {w w1 : World} {m : Nat} {l : List UInt8} {K : Option Addr} {cK : Nat} (hm : m ≤ 512) (hl : l.length = 32 * m) (hown : w1.ownsRow w.heap.size 5 1 (.slice K l.length cK) l.length (bcs l)) (hb : Below w.heap.size w w1) (g : Nat) (hg : g = w1.heap.size) :
    MadeR w ⟨m, l, [], [], -1⟩ (.returned (.pointer (some ⟨g, 0, none⟩))) (w1.alloc (.cells #[.slice K l.length cK, .slice none 0 0, .slice none 0 0, .bool false, .int .i64 0] 46)) := by
  subst hg
  obtain ⟨K', cap', e, _, _, _, hblk⟩ := own_form hown
  injection e with e1 _ _
  have hK : ∀ x ∈ blkOf K, w.heap.size ≤ x ∧ x < w1.heap.size := by rw [e1]; exact fun x hx => ⟨(hblk x hx).1, (hblk x hx).2.1⟩
  have hkeep : (w1.alloc (.cells #[.slice K l.length cK, .slice none 0 0, .slice none 0 0, .bool false, .int .i64 0] 46)).ownsRow w.heap.size 5 1 (.slice K l.length cK) l.length (bcs l) := hown.alloc _
  refine ⟨⟨w1.heap.size, K, cK, none, 0, none, 0, 0, []⟩, rfl, ⟨⟨hm, hl, fun s hs => by cases hs⟩, heap_alloc_new w1 _, ?_, World.ownsRow_nil _ _ _ _, rfl, fun k hk => absurd hk (by simp), fun h => absurd h (by simp), by simp, ⟨by dsimp only; omega, by dsimp only; omega, fun _ => rfl⟩⟩, ⟨fun x hx => ?_⟩, hb.alloc hb.size _, fun x hx => ?_⟩
  · exact own_base hkeep
  · simp [Rm.F, blkOf] at hx
    rcases hx with rfl | hx
    · simp
    · have := (hK x (by simpa [blkOf] using hx)).2
      simp
      omega
  · simp [Rm.F, blkOf] at hx
    rcases hx with rfl | hx
    · exact hb.size
    · exact (hK x (by simpa [blkOf] using hx)).1

theorem made_bytes (n : Nat) : madeCells (Value.int .u8 0).cells (n * 1) = (bcs (List.replicate n 0)).toArray := by
  apply Array.ext
  · rw [size_madeCells]; simp [bcs_len]
  · intro i h1 h2
    have e1 : (madeCells (Value.int .u8 0).cells (n * 1))[i] = (#[Value.int .u8 0] : Array Value)[i % 1]! := by
      show ((Array.range (n * 1)).map fun x => (#[Value.int .u8 0] : Array Value)[x % (#[Value.int .u8 0] : Array Value).size]!)[i]'(by simpa [madeCells] using h1) = _
      rw [Array.getElem_map, Array.getElem_range]
      rfl
    rw [e1, Nat.mod_one]
    simp only [bcs, List.getElem_toArray, List.map_replicate, List.getElem_replicate]
    rfl
theorem own_whole (w : World) (base : Nat) (l : List UInt8) (hb : base ≤ w.heap.size) (hl : l.length ≤ 1048576) (g n : Nat) (hg : g = w.heap.size) (hn : n = l.length) : (w.alloc (.cells (bcs l).toArray 5)).ownsRow base 5 1 (.slice (some ⟨g, 0, none⟩) n n) n (bcs l) := by
  subst hg hn
  exact ⟨by rw [bcs_len]; omega, .inr ⟨w.heap.size, l.length, (bcs l).toArray, rfl, hb, heap_alloc_new w _, Nat.le_refl _, by unfold maxLen; omega, by simp [bcs_len], by simp [← bcs_len]⟩⟩
theorem make_bytes (w : World) (m : Nat) (hm : m ≤ 1048576) : (Instr.makeSlice 36 (.int .i64 (m : Int)) (.int .i64 (m : Int))).run Tryd.prog w = .ok (.slice (some ⟨w.heap.size, 0, none⟩) m m) (w.alloc (.cells (bcs (List.replicate m 0)).toArray 5)) := by
  obtain ⟨i0, hi0, hz0, hz1, hz2⟩ := info_parts Tryd.infoByte
  have := run_make (P := Tryd.prog) w 36 5 i0 _ Tryd.underlying36 hi0 hz0 .i64 .i64 m m (by omega) (Int.le_refl _) (by rw [hz2]; omega) (by omega)
  rw [hz1, Int.toNat_natCast, made_bytes] at this
  exact this

set_option maxHeartbeats 800000 in
theorem ref_new_any (w : World) (n : Int) : Calls Tryd.prog 15 #[.int .i64 n] w (MadeR w (Dk.new n)) := by
  have hgo : ∀ m q : Nat, (min (max n 0) 512).toNat = m → q = 32 * m → MadeR w (Dk.new n) (.returned (.pointer (some ⟨w.heap.size + 1, 0, none⟩))) ((w.alloc (.cells (bcs (List.replicate q 0)).toArray 5)).alloc (.cells #[.slice (some ⟨w.heap.size, 0, none⟩) q q, .slice none 0 0, .slice none 0 0, .bool false, .int .i64 0] 46)) := by
    rintro m q hm rfl
    have hm512 : m ≤ 512 := by omega
    have hdn : Dk.new n = ⟨m, List.replicate (32 * m) 0, [], [], -1⟩ := by unfold Dk.new; rw [hm]
    rw [hdn]
    have := made_r (w := w) (w1 := w.alloc (.cells (bcs (List.replicate (32 * m) 0)).toArray 5)) (m := m) (l := List.replicate (32 * m) 0) (K := some ⟨w.heap.size, 0, none⟩) (cK := 32 * m) hm512 (by simp) (by
      rw [List.length_replicate]
      exact own_whole w w.heap.size _ (Nat.le_refl _) (by simp; omega) _ _ rfl (by simp)) ((Below.refl _ _).alloc (Nat.le_refl _) _) (w.heap.size + 1) (by simp)
    rw [List.length_replicate] at this
    exact this
  obtain ⟨m, hm⟩ : ∃ m, m = (min (max n 0) 512).toNat := ⟨_, rfl⟩
  obtain ⟨q, hq⟩ : ∃ q, q = 32 * m := ⟨_, rfl⟩
  have HG := Lib.hid (hgo m q hm.symm hq)
  have HM := make_bytes w q (by omega)
  have h1 : max 0 (min n 512) = (m : Int) := by omega
  have h2 : (32 : Int) * (m : Int) = (q : Int) := by omega
  have h3 : q ≤ 16384 := by omega
  clear hgo hq hm
  go_enter Tryd.func15, Tryd.ntmps15
  go_wp2_with fail
  go_ret
  exact HG.out

theorem ref_len_any (w : World) (b : Rm) (d : Dk.D) (h : RAt w b d) :
    Calls Tryd.prog 62 #[.pointer (some ⟨b.P, 0, none⟩)] w fun e w' => e = .returned (.int .i64 d.n) ∧ w = w' := by
  have c0 := h.c.1
  have hn := h.ok.n
  obtain ⟨L, hL⟩ : ∃ L, L = d.kept.length := ⟨_, rfl⟩
  have e1 : (L : Int) / 32 = (d.n : Int) := by rw [hL, h.ok.kept]; omega
  have e0 : IntKind.i64.wrap (d.n : Int) = (d.n : Int) := IntWalk.i64_in _ (by omega)
  have e2 : (L : Int).tdiv 32 = (d.n : Int) := by rw [Int.tdiv_eq_ediv_of_nonneg (by omega)]; exact e1
  rw [← hL] at c0
  clear hL
  go_enter Tryd.func62, Tryd.ntmps62
  go_wp2
  go_ret
  exact ⟨rfl, rfl⟩

set_option maxHeartbeats 1600000 in
theorem ref_open_any (w : World) (A : Option Addr) (cap : Nat) (b : List UInt8) (hA : BIn w A b) (hl : b.length ≤ cap) (hc : cap ≤ 9223372036854775807) (hnil : A = none → cap = 0) :
    Calls Tryd.prog 29 #[.slice A b.length cap] w (MadeR w (Dk.opened b)) := by
  obtain ⟨i0, hi0, hz0, hz1, hz2⟩ := info_parts Tryd.infoByte
  obtain ⟨L, hL⟩ : ∃ L, L = b.length := ⟨_, rfl⟩
  rw [← hL] at hl ⊢
  obtain ⟨m, hm⟩ : ∃ m, m = L / 32 := ⟨_, rfl⟩
  have hm1 : (L : Int) / 32 = (m : Int) := by omega
  have hm2 : (L : Int).tdiv 32 = (m : Int) := by rw [Int.tdiv_eq_ediv_of_nonneg (by omega)]; exact hm1
  obtain ⟨n, hn⟩ : ∃ n, n = min m 512 := ⟨_, rfl⟩
  have hdo : Dk.opened b = ⟨n, b.take (32 * n), [], [], -1⟩ := by
    unfold Dk.opened
    rw [← hL, ← hm, ← hn]
  rw [hdo]
  have hn512 : n ≤ 512 := by omega
  obtain ⟨q, hq⟩ : ∃ q, q = 32 * n := ⟨_, rfl⟩
  have hqL : q ≤ L := by omega
  have hq1 : (32 : Int) * (n : Int) = (q : Int) := by omega
  rw [← hq]
  have hlt : (b.take q).length = q := by rw [List.length_take]; omega
  have HFIN : Hid (∀ K cK w1, w1.ownsRow w.heap.size 5 1 (.slice K q cK) q (bcs (b.take q)) → Below w.heap.size w w1 → MadeR w ⟨n, b.take q, [], [], -1⟩ (.returned (.pointer (some ⟨w1.heap.size, 0, none⟩))) (w1.alloc (.cells #[.slice K q cK, .slice none 0 0, .slice none 0 0, .bool false, .int .i64 0] 46))) := Lib.hid (fun K cK w1 ho hb => by
    have := made_r (w := w) (w1 := w1) (m := n) (l := b.take q) (K := K) (cK := cK) hn512 (by rw [hlt]; exact hq) (by rw [hlt]; exact ho) hb w1.heap.size rfl
    rw [hlt] at this
    exact this)
  have hb0 : Below w.heap.size w (w.alloc (.cells #[] 5)) := (Below.refl _ _).alloc (Nat.le_refl _) _
  have HB0 := Lib.hid hb0
  have HCELL : Hid (∀ ad, A = some ad → ∀ j u, (bcs (b.take q))[j]? = some u → (w.alloc (.cells #[] 5)).cell? (ad.add j) = some u) := Lib.hid (fun ad e j u hu => by
    have hj : j < q := by have := (List.getElem?_eq_some_iff.1 hu).1; rw [bcs_len, hlt] at this; exact this
    obtain ⟨bb, off, e2, hbb, hcell⟩ := hA (by omega)
    rw [e] at e2
    injection e2 with e2
    rw [e2, Addr.add_mid, hb0.cell (p := ⟨bb, off + j, none⟩) hbb, hcell j (by omega), ← hu]
    simp only [bcs, List.getElem?_map, List.getElem?_take, if_pos hj]
    rw [List.getElem?_eq_getElem (by omega)]
    rfl)
  have HNL := Lib.hid hlt
  have HONE := Lib.hid (bcs_one (b.take q))
  have hL0 : (0 : Int) ≤ (L : Int) := by omega
  have hqc : (q : Int) ≤ (cap : Int) := by omega
  have hq0 : (0 : Int) ≤ (q : Int) := by omega
  have HA0 : Hid (A = none → q = 0) := Lib.hid (fun e => by have := hnil e; omega)
  obtain ⟨xs, hxs⟩ : ∃ xs, xs = bcs (b.take q) := ⟨_, rfl⟩
  have hxl : xs.length = q * 1 := by rw [hxs, bcs_len, hlt]; omega
  rw [← hxs] at HFIN HCELL HONE
  have HXL := Lib.hid hxl
  have hq64 : q ≤ 16384 := by omega
  obtain ⟨mi, hmi⟩ : ∃ mi : Int, mi = (m : Int) := ⟨_, rfl⟩
  rw [← hmi] at hm1 hm2
  have h1 : min mi 512 = (n : Int) := by omega
  have h2 : ∃ x, x = mi := ⟨_, rfl⟩
  clear hb0 hlt hq hdo hL hn hxs hxl hA hm hmi h2
  go_enter Tryd.func29, Tryd.ntmps29
  go_wp2_with (at_builtin; refine wpList_append_gen rfl _ _ 36 rfl w.heap.size 5 i0 (.int .u8 0) 1 1 Tryd.underlying36 hi0 hz0 hz1 hz2 rfl (by omega) (.slice (some ⟨w.heap.size, 0, none⟩) 0 0) 0 [] rfl (own_empty w _ _ _ (Nat.le_refl _) _ rfl) A q cap xs rfl HXL.out (fun hn => by
    cases hA : A with
    | none => exact absurd (HA0.out hA) (by omega)
    | some ad => exact ⟨ad, rfl, HCELL.out ad hA⟩) HONE.out (by unfold maxLen; omega) (by omega) (by simp) ?_; intro v1 w1 hown1 hgrow1 hat1; rw [Nat.zero_add, List.nil_append] at hown1; obtain ⟨K, cK, rfl, hcK, hmax, _, hblk⟩ := own_form hown1; clear hat1)
  go_ret
  exact HFIN.out K cK w1 hown1 (HB0.out.grown hgrow1 (by simp) (fun x hx => by simp [Value.ownBlock] at hx; omega))
end Go.Proofs.YtkmljbbnpjlehaaDoor
