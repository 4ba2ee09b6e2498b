/- What package record's source answers: take, number, text; for texts of at most 2^30 bytes. -/
import Derived.Test.YtfeaonbeklmfgaaGreatDoorRkC
namespace Go.Proofs.YtfeaonbeklmfgaaGreatDoor
set_option maxRecDepth 8000
open Go.RowKit

/-- What is still to be read, in a block of its own. -/
def SrcAt (w : World) (g : Nat) (s : List UInt8) : Prop := w.heap[g]? = some (.cells #[.string (S s)] 118 (0, 0))
theorem SrcAt.cell {w : World} {g : Nat} {s : List UInt8} (h : SrcAt w g s) : w.cell? ⟨g, 0, none⟩ = some (.string (S s)) := cell_of_row w _ 0 _ _ _ h
theorem SrcAt.frozen {w : World} {g : Nat} {s : List UInt8} (h : SrcAt w g s) : w.frozen? ⟨g, 0, none⟩ = false := by
  unfold SrcAt at h
  simp [World.frozen?, h]
theorem SrcAt.set {w : World} {g : Nat} {s : List UInt8} (h : SrcAt w g s) (x : List UInt8) : SrcAt (w.setCell ⟨g, 0, none⟩ (.string (S x))) g x ∧ w.grownBy (w.setCell ⟨g, 0, none⟩ (.string (S x))) (some g) :=
  ⟨heap_setCell_same w g 0 _ _ _ h, ⟨rfl, rfl, rfl, by simp, fun k _ hk => heap_setCell_other w ⟨g, 0, none⟩ k _ (fun e => hk (by simp [e]))⟩⟩
theorem S_ext {a : ByteArray} {l : List UInt8} (h : a.data.toList = l) : a = S l := by
  apply ByteArray.ext
  apply Array.ext'
  rw [h]
  simp [S]
theorem S_take (s : List UInt8) (n : Nat) : (S s).extract 0 (min (n : Int) (s.length : Int)).toNat = S (s.take n) := by
  apply S_ext
  rw [ByteArray.data_extract, Array.toList_extract, List.extract_eq_take_drop, List.drop_zero, Nat.sub_zero]
  show s.take _ = _
  rw [show (min (n : Int) (s.length : Int)).toNat = min n s.length by omega, ← List.take_take, List.take_length]
theorem S_drop (s : List UInt8) (n : Nat) : (S s).extract (min (n : Int) (s.length : Int)).toNat (S s).size = S (s.drop n) := by
  apply S_ext
  rw [extract_toList]
  show s.drop _ = _
  rw [show (min (n : Int) (s.length : Int)).toNat = min n s.length by omega]
  rcases Nat.le_total n s.length with h | h
  · rw [Nat.min_eq_left h]
  · rw [Nat.min_eq_right h, List.drop_length, List.drop_eq_nil_of_le h]
theorem grown_below {w w1 w2 : World} {g : Nat} (h : w.grownBy w1 (some g)) (hb : Below w1.heap.size w1 w2) : w.grownBy w2 (some g) :=
  ⟨hb.os.trans h.os, hb.tape.trans h.tape, hb.output.trans h.output, Nat.le_trans h.size hb.size, fun k hk hne => (hb.block k (Nat.lt_of_lt_of_le hk h.size)).trans (h.block k hk hne)⟩
theorem SrcAt.next {w w' : World} {g : Nat} {s : List UInt8} (h : SrcAt w g s) (hb : Below w.heap.size w w') : SrcAt w' g s := (hb.block g (lt_of_blk h)).trans h
def SrcPost (w : World) (g : Nat) (s : List UInt8) (v : Value) (e : Ending) (w' : World) : Prop := e = .returned v ∧ SrcAt w' g s ∧ w.grownBy w' (some g)
set_option maxHeartbeats 800000 in
theorem take_any (w : World) (g : Nat) (s : List UInt8) (n : Nat) (hs : SrcAt w g s) (hn : n ≤ 1073741824) (hl : s.length ≤ 1073741824) :
    Calls Tryz.prog 95 #[.pointer (some ⟨g, 0, none⟩), .int .i64 (n : Int)] w (SrcPost w g (s.drop n) (.string (S (s.take n)))) := by
  have hc := hs.cell
  have hfz := hs.frozen
  have h1 := S_take s n
  have h2 := S_drop s n
  have HS := Lib.hid (hs.set (s.drop n))
  clear hs
  have hsz : ((S s).size : Int) = (s.length : Int) := rfl
  go_enter Tryz.func95, Tryz.ntmps95
  go_wp2_with fail
  go_ret
  exact ⟨rfl, HS.out.1, HS.out.2⟩
/-- One round of 'n<<8 | int(b)'. -/
theorem num_step (l : List UInt8) (c : UInt8) : bits .or .i64 (IntKind.i64.wrap (Rk.numI l * 256)) (c.toNat : Int) = Rk.numI (l ++ [c]) := by
  have hc := c.toNat_lt
  unfold Rk.numI
  rw [Rk.num_snoc]
  generalize Rk.num l = n
  generalize c.toNat = b at hc ⊢
  show IntKind.i64.wrap ((BitVec.ofInt 64 (IntKind.i64.wrap (IntKind.i64.wrap (n : Int) * 256)) ||| BitVec.ofInt 64 (b : Int)).toNat : Int) = _
  have e1 : (BitVec.ofInt 64 (IntKind.i64.wrap (IntKind.i64.wrap (n : Int) * 256))).toNat = n * 256 % 18446744073709551616 := by
    rw [BitVec.toNat_ofInt, IntKind.wrap_i64, IntKind.wrap_i64]
    omega
  have e2 : (BitVec.ofInt 64 (b : Int)).toNat = b := by
    rw [BitVec.toNat_ofInt]
    omega
  rw [BitVec.toNat_or, e1, e2]
  have e3 : n * 256 % 18446744073709551616 = (n % 72057594037927936) * 2 ^ 8 := by omega
  have e4 := Nat.shiftLeft_add_eq_or_of_lt (show b < 2 ^ 8 by omega) (n % 72057594037927936)
  rw [Nat.shiftLeft_eq] at e4
  rw [e3, ← e4, IntKind.wrap_i64, IntKind.wrap_i64]
  omega
set_option maxHeartbeats 1600000 in
theorem number_any (w : World) (g : Nat) (s : List UInt8) (n : Nat) (hs : SrcAt w g s) (hn : n ≤ 1073741824) (hl : s.length ≤ 1073741824) :
    Calls Tryz.prog 86 #[.pointer (some ⟨g, 0, none⟩), .int .i64 (n : Int)] w (SrcPost w g (s.drop n) (.int .i64 (Rk.numI (s.take n)))) := by
  have hT := take_any w g s n hs hn hl
  clear hs
  go_enter Tryz.func86, Tryz.ntmps86
  obtain ⟨x, hx⟩ : ∃ x, x = s.take n := ⟨_, rfl⟩
  rw [← hx] at hT ⊢
  have hxl : x.length ≤ 1073741824 := by rw [hx, List.length_take]; omega
  clear hx
  go_wp2_with (go_at_call 95; refine hT.mono ?_; rintro e w1 ⟨rfl, hs1, hg1⟩; obtain ⟨cap, w2, hcv, hb2, hbc2⟩ := conv_bytes w1 x)
  have HP := Lib.hid (And.intro (hs1.next hb2) (grown_below hg1 hb2))
  have hsz : ((S x).size : Int) = (x.length : Int) := rfl
  clear hT hs1 hg1 hcv hb2
  go_loopw [5, 13] (fun nv iv wr => ∃ k : Nat, k ≤ x.length ∧ iv = .int .i64 (k : Int) ∧ nv = .int .i64 (Rk.numI (x.take k)) ∧ wr = w2) (fun _ iv _ => x.length - (intOf iv).toNat)
  case atStart => exact ⟨0, Nat.zero_le _, rfl, rfl, rfl⟩
  case round =>
    obtain ⟨k, hk, rfl, rfl, rfl⟩ := hrel
    by_cases hlt : k < x.length
    · obtain ⟨b, off, he, hc⟩ := hbc2 (by omega)
      cases he
      have hc0 := hc k hlt
      rw [Nat.zero_add] at hc0
      have hs := num_step (x.take k) (x[k])
      have HT := Lib.hid (List.take_succ_eq_append_getElem hlt)
      unfold B at hc0
      have hkI : (k : Int) < (x.length : Int) := by omega
      have hkJ : (0 : Int) ≤ (k : Int) := by omega
      clear hc
      have hc64 := (x[k]).toNat_lt
      go_wp2_with fail
      go_roundw
      case rel =>
        refine ⟨k + 1, by omega, by go_num, ?_, by first | rfl | trivial⟩
        rw [HT.out, ← hs, IntKind.wrap_i64, wrap64]
      case measure => simp [intOf]; omega
    · have hkI : ¬ (k : Int) < (x.length : Int) := by omega
      rw [List.take_of_length_le (by omega)]
      go_wp2_with fail
      go_ret
      exact ⟨rfl, HP.out.1, HP.out.2⟩
set_option maxHeartbeats 1600000 in
theorem text_any (w : World) (g : Nat) (s : List UInt8) (hs : SrcAt w g s) (hl : s.length ≤ 1073741824) :
    Calls Tryz.prog 87 #[.pointer (some ⟨g, 0, none⟩)] w (SrcPost w g (Rk.rdT s).2 (.string (S (Rk.rdT s).1))) := by
  have hN := number_any w g s 1 hs (by omega) hl
  have hnl : (s.take 1).length ≤ 1 := by rw [List.length_take]; omega
  have hnm : Rk.numI (s.take 1) = (Rk.num (s.take 1) : Int) := Rk.numI_small (by omega)
  have hlt := Rk.num_lt (s.take 1)
  have hle : Rk.num (s.take 1) ≤ 255 := by
    have h2 : 256 ^ (s.take 1).length ≤ 256 ^ 1 := Nat.pow_le_pow_right (by decide) hnl
    omega
  rw [hnm] at hN
  unfold Rk.rdT
  generalize Rk.num (s.take 1) = n at hN hle ⊢
  have hdl : (s.drop 1).length ≤ 1073741824 := by rw [List.length_drop]; omega
  generalize s.drop 1 = d at hN hdl ⊢
  have HT : Hid (∀ w1, SrcAt w1 g d → Calls Tryz.prog 95 #[.pointer (some ⟨g, 0, none⟩), .int .i64 (n : Int)] w1 (SrcPost w1 g (d.drop n) (.string (S (d.take n))))) := Lib.hid fun w1 h => take_any w1 g d n h (by omega) hdl
  clear hs hnl hnm hlt hle hl hdl
  go_enter Tryz.func87, Tryz.ntmps87
  go_wp2_with (first
    | (go_at_call 86; refine hN.mono ?_; rintro e w1 ⟨rfl, hs1, hg1⟩)
    | (go_at_call 95; refine (HT.out _ hs1).mono ?_; rintro e w2 ⟨rfl, hs2, hg2⟩))
  go_ret
  exact ⟨rfl, hs2, ⟨hg2.os.trans hg1.os, hg2.tape.trans hg1.tape, hg2.output.trans hg1.output, Nat.le_trans hg1.size hg2.size, fun k hk hne => (hg2.block k (Nat.lt_of_lt_of_le hk hg1.size) hne).trans (hg1.block k hk hne)⟩⟩
end Go.Proofs.YtfeaonbeklmfgaaGreatDoor
