/- The document's own heads: four bytes of a number, a head's eight bytes, how many bytes an area has. Condition of the second: the table of sums reads as its text lays it. What the document's own Open asks of a block's first eight bytes, and the number it reads, plain. No program stands in it. No condition. -/
import Derived.Test.YtkmljbbnpjlehaaDoorMg25
import Derived.Test.YtkmljbbnpjlehaaDoorMg03
import Derived.Test.YtkmljbbnpjlehaaDoorMg17
import Derived.Test.YtkmljbbnpjlehaaDoorMg33
import Derived.Test.YtkmljbbnpjlehaaDoorMg20
namespace Go.Proofs.YtkmljbbnpjlehaaDoor
set_option maxRecDepth 8000
open Go.RowKit

theorem refFour_any (w : World) (n : Nat) (hn : n < 4294967296) : Calls Tryd.prog 70 #[.int .i64 (n : Int)] w (FourPost w n) := by
  have hbytes4 : (.cells #[.int .u8 ((n : Int) / 16777216), .int .u8 ((n : Int) / 65536 % 256), .int .u8 ((n : Int) / 256 % 256), .int .u8 ((n : Int) % 256)] 5 (0, 0) : Obj) = .cells ((Fr.be4 n).map B).toArray 5 (0, 0) := by
    have h1 : ((n : Int) / 16777216) = ((UInt8.ofNat (n / 16777216)).toNat : Int) := by rw [UInt8.toNat_ofNat']; omega
    have h2 : ((n : Int) / 65536 % 256) = ((UInt8.ofNat (n / 65536)).toNat : Int) := by rw [UInt8.toNat_ofNat']; omega
    have h3 : ((n : Int) / 256 % 256) = ((UInt8.ofNat (n / 256)).toNat : Int) := by rw [UInt8.toNat_ofNat']; omega
    have h4 : ((n : Int) % 256) = ((UInt8.ofNat n).toNat : Int) := by rw [UInt8.toNat_ofNat']; omega
    rw [h1, h2, h3, h4]
    rfl
  have HBY4 := Lib.hid hbytes4
  have h0 : (0 : Int) ≤ (n : Int) := by omega
  have w1 : IntKind.u8.wrap ((n : Int) / 16777216) = (n : Int) / 16777216 := by rw [IntKind.wrap_u8']; omega
  have w2 : IntKind.u8.wrap ((n : Int) / 65536 % 256) = (n : Int) / 65536 % 256 := by rw [IntKind.wrap_u8']; omega
  have w3 : IntKind.u8.wrap ((n : Int) / 256 % 256) = (n : Int) / 256 % 256 := by rw [IntKind.wrap_u8']; omega
  have w4 : IntKind.u8.wrap ((n : Int) % 256) = (n : Int) % 256 := by rw [IntKind.wrap_u8']; omega
  clear hbytes4
  go_enter Tryd.func70, Tryd.ntmps70
  go_wp2_with fail
  rw [HBY4.out]
  go_ret
  exact ⟨rfl, rfl⟩
set_option maxHeartbeats 1600000 in
theorem refHead_any (w : World) (g a u : Nat) (hg : g ≤ 262143) (ha : a ≤ 1) (hu : u < 8192) :
    Calls Tryd.prog 26 #[.int .i64 (g : Int), .int .i64 (a : Int), .int .i64 (u : Int)] w (OwnPost w 8 (Wl.head g a u)) := by
  have hwl := Wl.word_lt hg ha hu
  obtain ⟨v, hv⟩ : ∃ v, v = Wl.word g a u := ⟨_, rfl⟩
  have HV : Hid (Wl.head g a u = Fr.be4 (Cr.sum (Fr.be4 v)) ++ Fr.be4 v) := Lib.hid (by rw [hv]; rfl)
  have hvI : (v : Int) = (g : Int) * 16384 + (a : Int) * 8192 + (u : Int) := by rw [hv]; unfold Wl.word; omega
  rw [← hv] at hwl
  have hw1 : IntKind.i64.wrap ((g : Int) * 16384) = (g : Int) * 16384 := IntWalk.i64_in _ (by omega)
  have hw2 : IntKind.i64.wrap ((a : Int) * 8192) = (a : Int) * 8192 := IntWalk.i64_in _ (by omega)
  have hw3 : IntKind.i64.wrap ((g : Int) * 16384 + (a : Int) * 8192) = (g : Int) * 16384 + (a : Int) * 8192 := IntWalk.i64_in _ (by omega)
  have hw4 : IntKind.i64.wrap ((g : Int) * 16384 + (a : Int) * 8192 + (u : Int)) = (v : Int) := by rw [← hvI]; exact IntWalk.i64_in _ (by omega)
  have hF1 := Lib.hid (refFour_any w v hwl)
  clear hv
  go_enter Tryd.func26, Tryd.ntmps26
  go_wp2_with fail
  rw [← hvI]
  refine hF1.out.mono ?_
  rintro _ w1 ⟨rfl, hw1e⟩
  have hb1 : Below w.heap.size w w1 := by rw [hw1e]; exact (Below.refl _ _).alloc (Nat.le_refl _) _
  have hrow1 : Row w.heap.size w1 (.slice (some ⟨w.heap.size, 0, none⟩) 4 4) (Fr.be4 v) := by rw [hw1e]; exact row_made w _ (Nat.le_refl _) _ (by simp [Fr.be4]) _ 4 rfl rfl
  have hc1 := row_cells hrow1
  have HOF := Lib.hid (refOf_any (some ⟨w.heap.size, 0, none⟩) (Fr.be4 v) 4 4 w1 rfl (by omega) hc1)
  obtain ⟨s, hs⟩ : ∃ s, s = Cr.sum (Fr.be4 v) := ⟨_, rfl⟩
  have hsl : s < 4294967296 := by rw [hs]; exact Cr.sum_lt _
  rw [← hs] at HOF HV
  have HB1 := Lib.hid hb1
  have HC1 := Lib.hid hc1
  have hw5 : IntKind.i64.wrap (s : Int) = (s : Int) := IntWalk.i64_in _ (by omega)
  clear hF1 hw1e hb1 hrow1 hc1 hs hw1 hw2 hw3 hw4
  go_wp2_with fail
  refine HOF.out.mono ?_
  rintro _ w2 ⟨rfl, hb2⟩
  have hF2 := Lib.hid (refFour_any w2 s hsl)
  have HB2 := Lib.hid (HB1.out.trans (hb2.mono HB1.out.size))
  have HC2 := Lib.hid (HC1.out.next hb2)
  clear HOF hb2
  go_wp2_with fail
  refine hF2.out.mono ?_
  rintro _ w3 ⟨rfl, hw3e⟩
  have hb3 : Below w2.heap.size w2 w3 := by rw [hw3e]; exact (Below.refl _ _).alloc (Nat.le_refl _) _
  have hrow3 : Row w.heap.size w3 (.slice (some ⟨w2.heap.size, 0, none⟩) 4 4) (Fr.be4 s) := by rw [hw3e]; exact row_made w2 _ HB2.out.size _ (by simp [Fr.be4]) _ 4 rfl rfl
  have hbe3 := HB2.out.trans (hb3.mono HB2.out.size)
  have hc3 : BC w3 (some ⟨w.heap.size, 0, none⟩) (Fr.be4 v) := (HC2.out.below hb3).bc
  have hlen3 := hbe3.size
  have HN4 : Hid ((Fr.be4 v).length = 4) := Lib.hid rfl
  clear hw3e hb3 hF2
  go_wp2_with (at_builtin; refine wpList_append_bytes rfl _ _ rfl w.heap.size (.slice (some ⟨w2.heap.size, 0, none⟩) 4 4) (some ⟨w.heap.size, 0, none⟩) 4 4 (Fr.be4 s) (Fr.be4 v) rfl HN4.out rfl hrow3 hc3 (by simp [Fr.be4]) hlen3 ?_; intro v4 w4 hown4 hgrow4)
  rw [← HV.out] at hown4
  obtain ⟨A, c', rfl, _⟩ := hown4.form
  rw [show (Wl.head g a u).length = 8 from rfl] at hown4 ⊢
  go_ret
  exact ⟨A, c', rfl, hown4, hbe3.grown hgrow4 hlen3 (fun k hk => (World.ownsRow.lt hrow3 k hk).1)⟩

/-- How many bytes an area has. -/
theorem refSize_any (w : World) (b : Rm) (d : Dk.D) (h : RAt w b d) (h2 : 2 ≤ d.n) :
    Calls Tryd.prog 64 #[.pointer (some ⟨b.P, 0, none⟩)] w fun e w' => e = .returned (.int .i64 (Wl.areaBytes d.n : Int)) ∧ w = w' := by
  have hn := h.ok.n
  have HLN := Lib.hid (ref_len_any w b d h)
  obtain ⟨n, hnn⟩ : ∃ n, n = d.n := ⟨_, rfl⟩
  rw [← hnn] at HLN hn h2 ⊢
  have hA : (Wl.areaBytes n : Int) = 32 * (((n : Int) - 2) / 2) := by unfold Wl.areaBytes Wl.areaBlocks; omega
  have w1 : IntKind.i64.wrap ((n : Int) - 2) = (n : Int) - 2 := IntWalk.i64_in _ (by omega)
  have w2 : IntKind.i64.wrap (32 * (((n : Int) - 2) / 2)) = 32 * (((n : Int) - 2) / 2) := IntWalk.i64_in _ (by omega)
  have h0 : (0 : Int) ≤ (n : Int) - 2 := by omega
  have w3 : ((n : Int) - 2).tdiv 2 = ((n : Int) - 2) / 2 := Int.tdiv_eq_ediv_of_nonneg (by omega)
  rw [hA]
  clear hA hnn h
  go_enter Tryd.func64, Tryd.ntmps64
  go_wp2_with fail
  refine HLN.out.mono ?_
  rintro _ _ ⟨rfl, rfl⟩
  go_wp2_with fail
  go_ret
  first
    | exact ⟨rfl, rfl⟩
    | exact ⟨by simp, rfl⟩
end Go.Proofs.YtkmljbbnpjlehaaDoor
namespace Go.Proofs.YtkmljbbnpjlehaaDoor
set_option maxRecDepth 8000
namespace Wl

/-- The number that the first j bytes tell. -/
def numTo (b : Bytes) (j : Nat) : Nat := (b.take j).foldl (fun n x => 256 * n + x.toNat) 0
theorem numTo_zero (b : Bytes) : numTo b 0 = 0 := by unfold numTo; rw [List.take_zero]; rfl
theorem numTo_succ (b : Bytes) {j : Nat} (hj : j < b.length) : numTo b (j + 1) = 256 * numTo b j + b[j].toNat := by
  unfold numTo
  rw [List.take_succ_eq_append_getElem hj, List.foldl_append]
  rfl
theorem numTo_lt (b : Bytes) : ∀ j, numTo b j < 256 ^ j
  | 0 => by rw [numTo_zero]; decide
  | j + 1 => by
    have h := numTo_lt b j
    by_cases hj : j < b.length
    · rw [numTo_succ b hj, Nat.pow_succ]
      have := b[j].toNat_lt
      omega
    · have e : numTo b (j + 1) = numTo b j := by
        unfold numTo
        rw [List.take_of_length_le (by omega), List.take_of_length_le (by omega)]
      rw [e, Nat.pow_succ]
      omega
theorem numTo_four {b : Bytes} (h : 4 ≤ b.length) : numTo b 4 = num b := by
  match b, h with
  | p :: q :: r :: s :: t, _ =>
    show 256 * (256 * (256 * (256 * 0 + p.toNat) + q.toNat) + r.toNat) + s.toNat = p.toNat * 16777216 + q.toNat * 65536 + r.toNat * 256 + s.toNat
    omega
theorem be4_num {b : Bytes} (h : b.length = 4) : Fr.be4 (num b) = b :=
  num_inj rfl h (by
    have h1 := num_be4 (num_lt b) []
    rwa [List.append_nil] at h1)
/-- The head that the bytes tell of is what stands there, exactly where its sum is right. -/
theorem head_is {b : Bytes} (h : 8 ≤ b.length) : (head (hdOf b).gen (hdOf b).area (hdOf b).used = b.take 8) ↔ right b := by
  have hw : word (hdOf b).gen (hdOf b).area (hdOf b).used = num (b.drop 4) := by
    unfold word hdOf
    dsimp only
    omega
  have h4 : num (b.drop 4) = num ((b.drop 4).take 4) := num_take _ (by rw [List.length_drop]; omega)
  have hl4 : ((b.drop 4).take 4).length = 4 := by rw [List.length_take, List.length_drop]; omega
  have hb4 : Fr.be4 (num (b.drop 4)) = (b.drop 4).take 4 := by rw [h4]; exact be4_num hl4
  have ht : b.take 8 = b.take 4 ++ (b.drop 4).take 4 := by
    have e := List.take_append_drop 4 (b.take 8)
    rw [List.take_take, List.drop_take] at e
    exact e.symm
  have hn : num b = num (b.take 4) := num_take _ (by omega)
  have hl : (b.take 4).length = 4 := by rw [List.length_take]; omega
  unfold head right
  rw [hw, hb4, ht]
  constructor
  · intro e
    have e1 := (List.append_inj e (by rw [be4_len, hl])).1
    have h2 := num_be4 (Cr.sum_lt ((b.drop 4).take 4)) []
    rw [List.append_nil, e1] at h2
    rw [hn, h2]
  · intro e
    rw [← e, hn, be4_num hl]
/-- A further head is looked at: the later one stays. -/
def bump (l : Hd) (o : Option Hd) : Hd := match o with
  | some h => if l.gen ≤ h.gen then h else l
  | none => l
theorem newest_bump (n : Nat) (kept : Bytes) : newest n kept = bump (bump ⟨0, 0, 0⟩ (readH n 0 (Dk.blk kept 0))) (readH n 1 (Dk.blk kept 1)) := by
  unfold newest
  cases h0 : readH n 0 (Dk.blk kept 0) with
  | some h =>
    have e : bump ⟨0, 0, 0⟩ (some h) = h := by unfold bump; exact if_pos (Nat.zero_le _)
    rw [e]
    cases h1 : readH n 1 (Dk.blk kept 1) with
    | some g => rfl
    | none => rfl
  | none =>
    cases h1 : readH n 1 (Dk.blk kept 1) with
    | some g =>
      show g = bump ⟨0, 0, 0⟩ (some g)
      unfold bump
      exact (if_pos (Nat.zero_le _)).symm
    | none => rfl
theorem hdOf_lt (b : Bytes) : (hdOf b).gen ≤ 262143 ∧ (hdOf b).area ≤ 1 ∧ (hdOf b).used < 8192 := by
  have h := num_lt (b.drop 4)
  unfold hdOf
  dsimp only
  omega
theorem readH_lt {n i : Nat} {b : Bytes} {h : Hd} (e : readH n i b = some h) : h = hdOf b ∧ h.gen ≤ 262143 ∧ h.area ≤ 1 ∧ h.used ≤ areaBytes n := by
  unfold readH at e
  split at e
  · next hc =>
    injection e with e
    subst e
    exact ⟨rfl, (hdOf_lt b).1, (hdOf_lt b).2.1, hc.2.2⟩
  · cases e
theorem bump_lt {n i : Nat} {b : Bytes} {l : Hd} (hl : l.gen ≤ 262143 ∧ l.area ≤ 1 ∧ l.used ≤ areaBytes n) : (bump l (readH n i b)).gen ≤ 262143 ∧ (bump l (readH n i b)).area ≤ 1 ∧ (bump l (readH n i b)).used ≤ areaBytes n := by
  cases e : readH n i b with
  | none => exact hl
  | some h =>
    unfold bump
    dsimp only
    split
    · exact (readH_lt e).2
    · exact hl
/-- The heads of the first i blocks have been looked at. -/
def seenTo (n : Nat) (kept : Bytes) : Nat → Hd
  | 0 => ⟨0, 0, 0⟩
  | i + 1 => bump (seenTo n kept i) (readH n i (Dk.blk kept i))
theorem seenTo_two (n : Nat) (kept : Bytes) : seenTo n kept 2 = newest n kept := (newest_bump n kept).symm
theorem seenTo_lt (n : Nat) (kept : Bytes) : ∀ i, (seenTo n kept i).gen ≤ 262143 ∧ (seenTo n kept i).area ≤ 1 ∧ (seenTo n kept i).used ≤ areaBytes n
  | 0 => ⟨Nat.zero_le _, Nat.zero_le _, Nat.zero_le _⟩
  | i + 1 => bump_lt (seenTo_lt n kept i)
end Wl
end Go.Proofs.YtkmljbbnpjlehaaDoor
