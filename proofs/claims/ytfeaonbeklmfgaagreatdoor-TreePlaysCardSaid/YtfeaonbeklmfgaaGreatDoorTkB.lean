/- What strconv.FormatUint answers at base 16, for any number of 64 bits, where the table of math/bits that it reads holds what its text lays there. -/
import Derived.Test.YtfeaonbeklmfgaaGreatDoorTkA
namespace Go.Proofs.YtfeaonbeklmfgaaGreatDoor
set_option maxRecDepth 8000
open Go.RowKit

def Tz (w : World) : Prop := w.cell? ⟨6, 15, none⟩ = some (.int .u8 4)
theorem tz64_any (w : World) (h : Tz w) :
    Calls Tryz.prog 150 #[.int .u64 16] w fun e w' => e = .returned (.int .i64 4) ∧ w' = w := by
  unfold Tz at h
  have h1 : IntKind.u64.wrap (-16) = 18446744073709551600 := by decide +kernel
  have h2 : bits .and .u64 16 18446744073709551600 = 16 := by decide +kernel
  have h3 : IntKind.u64.wrap 4573923408821661840 = 4573923408821661840 := by decide +kernel
  go_enter Tryz.func150, Tryz.ntmps150
  go_wp2
  go_ret
  exact ⟨rfl, rfl⟩
theorem tz_any (w : World) (h : Tz w) :
    Calls Tryz.prog 145 #[.int .u64 16] w fun e w' => e = .returned (.int .i64 4) ∧ w' = w := by
  go_enter Tryz.func145, Tryz.ntmps145
  go_wp2_with (go_at_call 150; refine (tz64_any _ h).mono ?_; rintro e w' ⟨rfl, rfl⟩)
  go_ret
  exact ⟨rfl, rfl⟩
theorem two_any (w : World) :
    Calls Tryz.prog 144 #[.int .i64 16] w fun e w' => e = .returned (.bool true) ∧ w' = w := by
  have hb : bits .and .i64 16 15 = 0 := by decide +kernel
  go_enter Tryz.func144, Tryz.ntmps144
  go_wp2
  go_ret
  exact ⟨rfl, rfl⟩

/-- A row of 65 bytes that are the call's own. -/
structure Arr (w : World) (g : Nat) (l : List UInt8) : Prop where
  len : l.length ≤ 65
  cell : ∀ j, j < 65 → ∃ x, w.cell? ⟨g, j, none⟩ = some (.int .u8 x)
  free : ∀ j, j < 65 → w.frozen? ⟨g, j, none⟩ = false
  at_ : ∀ j (h : j < l.length), w.cell? ⟨g, 65 - l.length + j, none⟩ = some (B l[j])
theorem arr_zero (w : World) : Arr (w.alloc (.cells Tryz.zeroCells175 175)) w.heap.size [] := by
  have hz : Tryz.zeroCells175 = Array.replicate 65 (.int .u8 0) := by kernel_rfl
  refine ⟨by simp, fun j hj => ⟨0, ?_⟩, fun j hj => ?_, fun j hj => by simp at hj⟩
  · rw [cell_of_row _ _ _ _ _ _ (heap_alloc_new w _), hz]
    simp [hj]
  · exact World.frozen?_alloc_new _ _ _ _
theorem Arr.set {w : World} {g : Nat} {l : List UInt8} (h : Arr w g l) (hl : l.length < 65) (c : UInt8) : Arr (w.setCell ⟨g, 65 - l.length - 1, none⟩ (B c)) g (c :: l) := by
  obtain ⟨x, hx⟩ := h.cell (65 - l.length - 1) (by omega)
  refine ⟨by simp; omega, fun j hj => ?_, fun j hj => ?_, fun j hj => ?_⟩
  · by_cases e : j = 65 - l.length - 1
    · subst e
      exact ⟨_, World.cell?_setCell_same _ _ _ hx⟩
    · obtain ⟨y, hy⟩ := h.cell j hj
      refine ⟨y, ?_⟩
      rw [World.cell?_setCell_other _ _ _ _ (by simp only [ne_eq, Addr.mk.injEq]; omega), hy]
  · rw [World.frozen?_setCell]
    exact h.free j hj
  · cases j with
    | zero =>
      have : 65 - (c :: l).length + 0 = 65 - l.length - 1 := by simp; omega
      rw [this]
      exact World.cell?_setCell_same _ _ _ hx
    | succ j =>
      have hj' : j < l.length := by simpa using hj
      have e : 65 - (c :: l).length + (j + 1) = 65 - l.length + j := by simp; omega
      rw [e, World.cell?_setCell_other _ _ _ _ (by simp only [ne_eq, Addr.mk.injEq]; omega), h.at_ j hj']
      rfl

def digits36 : ByteArray := ⟨#[48, 49, 50, 51, 52, 53, 54, 55, 56, 57, 97, 98, 99, 100, 101, 102, 103, 104, 105, 106, 107, 108, 109, 110, 111, 112, 113, 114, 115, 116, 117, 118, 119, 120, 121, 122]⟩
theorem idx_digit (d : Nat) (hd : d < 16) (w : World) : (Instr.index 9 (.string digits36) (.int .u64 (d : Int))).run Tryz.prog w = .ok (B (Tk.hx d)) w := by
  have : d = 0 ∨ d = 1 ∨ d = 2 ∨ d = 3 ∨ d = 4 ∨ d = 5 ∨ d = 6 ∨ d = 7 ∨ d = 8 ∨ d = 9 ∨ d = 10 ∨ d = 11 ∨ d = 12 ∨ d = 13 ∨ d = 14 ∨ d = 15 := by omega
  rw [run_index_string w _ _ _ _ Tryz.underlying9]
  rcases this with rfl | rfl | rfl | rfl | rfl | rfl | rfl | rfl | rfl | rfl | rfl | rfl | rfl | rfl | rfl | rfl <;> rfl
theorem and15 (m : Nat) (h : m < 18446744073709551616) : bits .and .u64 (m : Int) 15 = ((m % 16 : Nat) : Int) := by
  have h1 := bits_and_u64_nat m 15 h (by omega)
  rw [nat_mask4] at h1
  exact h1
theorem hexs_big {m : Nat} (h : 16 ≤ m) : Tk.hexs m = Tk.hexs (m / 16) ++ [Tk.hx (m % 16)] := by
  rw [Tk.hexs, if_neg (by omega)]
theorem hexs_small {m : Nat} (h : m < 16) : Tk.hexs m = [Tk.hx m] := by rw [Tk.hexs, if_pos h]
theorem pow_down {m k : Nat} (hk : k < 16) (h : m < 16 ^ (16 - k)) : m / 16 < 16 ^ (16 - (k + 1)) := by
  rw [show 16 - k = (16 - (k + 1)) + 1 by omega, Nat.pow_succ] at h
  omega

set_option maxHeartbeats 1600000 in
theorem formatBits_any (n : Nat) (hn : n < 18446744073709551616) (w : World) (h : Tz w) (hlt : 6 < w.heap.size) :
    Calls Tryz.prog 133 #[.slice none 0 0, .int .u64 n, .int .i64 16, .bool false, .bool false] w fun e w' => e = .returned (.tuple #[.slice none 0 0, .string (S (Tk.hexs n))]) ∧ Below w.heap.size w w' := by
  have hz := arr_zero w
  have hT : Tz (w.alloc (.cells Tryz.zeroCells175 175)) := by
    unfold Tz at h ⊢
    rw [World.cell?_alloc_old]
    · exact h
    · exact Nat.ne_of_lt hlt
  have hb0 : Below w.heap.size w (w.alloc (.cells Tryz.zeroCells175 175)) := (Below.refl _ _).alloc (Nat.le_refl _) _
  go_enter Tryz.func133, Tryz.ntmps133
  rw [show (⟨#[48, 49, 50, 51, 52, 53, 54, 55, 56, 57, 97, 98, 99, 100, 101, 102, 103, 104, 105, 106, 107, 108, 109, 110, 111, 112, 113, 114, 115, 116, 117, 118, 119, 120, 121, 122]⟩ : ByteArray) = digits36 from rfl]
  go_upto_region 4 with fail
  generalize w.alloc (.cells Tryz.zeroCells175 175) = w1 at hz hT hb0 ⊢
  go_upto_region 11 with (first
    | (go_at_call 144; refine (two_any _).mono ?_; rintro e w' ⟨rfl, rfl⟩)
    | (go_at_call 145; refine (tz_any _ hT).mono ?_; rintro e w' ⟨rfl, rfl⟩))
  rename World => w2
  obtain ⟨g, hg⟩ : ∃ g, g = w.heap.size := ⟨_, rfl⟩
  rw [← hg] at hz ⊢
  have HG := Lib.hid hg
  have HH := Lib.hid hb0
  clear hb0 hT h hlt hg
  go_loopw [13, 1] (fun vi vu wr => ∃ (l : List UInt8) (m : Nat) (i : Int), vi = .int .i64 i ∧ vu = .int .u64 m ∧ Arr wr g l ∧ Below g w wr ∧ Hid (i = 65 - (l.length : Int) ∧ l.length ≤ 15 ∧ m < 16 ^ (16 - l.length) ∧ Tk.hexs n = Tk.hexs m ++ l)) (fun _ vu _ => (intOf vu).toNat)
  case atStart =>
    refine ⟨[], n, 65, rfl, rfl, hz, by rw [HG.out]; exact HH.out, Lib.hid ⟨rfl, by simp, Nat.lt_of_lt_of_le hn (by decide), by simp⟩⟩
  case round =>
    obtain ⟨l, m, i, rfl, rfl, hA, hB, hh⟩ := hrel
    obtain ⟨hi, hl, hm, hx⟩ := hh.out
    have HX := Lib.hid hx
    have HL := Lib.hid hl
    clear hh hx
    have hm64 : m < 18446744073709551616 := Nat.lt_of_lt_of_le hm (Nat.le_trans (Nat.pow_le_pow_right (by omega) (show 16 - l.length ≤ 16 by omega)) (by decide))
    have HM := Lib.hid hm
    clear hm
    obtain ⟨x0, hc0⟩ := hA.cell (65 - l.length - 1) (by omega)
    have hf0 := hA.free (65 - l.length - 1) (by omega)
    have hset := fun c => hA.set (by omega) c
    have e0 : ((65 - l.length - 1 : Nat) : Int) = i - 1 := by omega
    have hi' : i - 1 = 65 - ((l.length + 1 : Nat) : Int) := by omega
    have HI := Lib.hid hi'
    obtain ⟨q, hq⟩ : ∃ q : Nat, q = 65 - l.length - 1 := ⟨_, rfl⟩
    rw [← hq] at hc0 hf0 hset e0
    have HQ := Lib.hid hq
    have i0 : 0 ≤ i - 1 := by omega
    have i1 : i - 1 < 65 := by omega
    have i2 : (i - 1).toNat = q := by omega
    have HA := Lib.hid hA
    clear hi e0 hA hi' hq hl
    by_cases h16 : 16 ≤ m
    · obtain ⟨d, hd⟩ : ∃ d, d = m % 16 := ⟨_, rfl⟩
      obtain ⟨m', hm'⟩ : ∃ m', m' = m / 16 := ⟨_, rfl⟩
      have hand : bits .and .u64 (m : Int) 15 = (d : Int) := by rw [hd]; exact and15 m hm64
      have hshr : (m : Int) / 16 = (m' : Int) := by omega
      have hx1 := idx_digit d (by omega)
      have hstep : Hid (i - 1 = 65 - (((Tk.hx d :: l).length : Nat) : Int) ∧ (Tk.hx d :: l).length ≤ 15 ∧ m' < 16 ^ (16 - (Tk.hx d :: l).length) ∧ Tk.hexs n = Tk.hexs m' ++ Tk.hx d :: l) := by
        have hlt15 : l.length < 15 := by
          rcases Nat.lt_or_ge l.length 15 with h | h
          · exact h
          · exfalso
            have h1 := HM.out
            have h2 := HL.out
            rw [show l.length = 15 by omega] at h1
            omega
        refine Lib.hid ⟨by rw [HI.out, List.length_cons], by simp; omega, ?_, ?_⟩
        · rw [hm', List.length_cons]
          exact pow_down (by omega) HM.out
        · rw [HX.out, hexs_big h16, ← hd, ← hm']
          simp
      have hmm : m' < m := by omega
      have hd16 : (d : Int) < 16 := by omega
      clear hd hm'
      go_wp2
      go_roundw
      case rel => exact ⟨_, m', i - 1, rfl, rfl, hset _, hB.setCell (Nat.le_refl _) _, hstep⟩
      case measure => simp [intOf]; omega
    · have hx1 := idx_digit m (by omega)
      have hlast := hset (Tk.hx m)
      have hB1 := hB.setCell (p := ⟨g, q, none⟩) (Nat.le_refl _) (B (Tk.hx m))
      go_upto_region 30 with fail
      generalize wr.setCell ⟨g, q, none⟩ (B (Tk.hx m)) = wz at hlast hB1 ⊢
      have hal : Tryz.prog.arrayLen 175 = 65 := by kernel_rfl
      have hsl : ∀ W, (Instr.sliceAt 175 (.pointer (some ⟨g, 0, none⟩)) (some (.int .i64 (i - 1))) none none).run Tryz.prog W = .ok (.slice (some ⟨g, q, none⟩) (Tk.hx m :: l).length (Tk.hx m :: l).length) W := fun W => by
        rw [run_sliceAt_array_l W 175 ⟨g, 0, none⟩ (by kernel_rfl) .i64 (i - 1) i0 (by rw [hal]; omega)]
        rw [hal]
        go_simp
        have h1 := HI.out
        have h2 := HL.out
        have h3 := HQ.out
        try simp only [List.length_cons]
        omega
      have hcv : (convert 94 9 (.slice (some ⟨g, q, none⟩) (Tk.hx m :: l).length (Tk.hx m :: l).length)).run Tryz.prog wz = .ok (.string (S (Tk.hx m :: l))) wz := by
        refine run_convert_bytes_back (P := Tryz.prog) wz 94 9 5 ⟨g, q, none⟩ _ (Tk.hx m :: l) Tryz.underlying94 Tryz.underlying5 Tryz.underlying9 (fun j hj => ?_)
        have := hlast.at_ j hj
        have e3 : 65 - (Tk.hx m :: l).length = q := by rw [HQ.out, List.length_cons]; omega
        rw [e3] at this
        rw [Addr.add_mid]
        exact this
      have hfin := Lib.hid (show S (Tk.hx m :: l) = S (Tk.hexs n) by rw [HX.out, hexs_small (by omega)]; rfl)
      generalize (Tk.hx m :: l).length = len at hsl hcv
      generalize S (Tk.hx m :: l) = Z at hcv hfin
      clear hal hset hc0 hf0 hx1 i0 i1 i2 hlast
      go_wp2
      go_ret2
      rw [hfin.out]
      exact ⟨rfl, by rw [← HG.out]; exact hB1⟩
theorem innerFormat_any (n : Nat) (hn : n < 18446744073709551616) (w : World) (h : Tz w) (hlt : 6 < w.heap.size) :
    Calls Tryz.prog 116 #[.int .u64 n, .int .i64 16] w fun e w' => e = .returned (.string (S (Tk.hexs n))) ∧ Below w.heap.size w w' := by
  go_enter Tryz.func116, Tryz.ntmps116
  go_wp2_with (go_at_call 133; refine (formatBits_any n hn _ h hlt).mono ?_; rintro e w' ⟨rfl, hb⟩)
  go_ret
  exact ⟨rfl, hb⟩
theorem format_any (n : Nat) (hn : n < 18446744073709551616) (w : World) (h : Tz w) (hlt : 6 < w.heap.size) :
    Calls Tryz.prog 106 #[.int .u64 n, .int .i64 16] w fun e w' => e = .returned (.string (S (Tk.hexs n))) ∧ Below w.heap.size w w' := by
  go_enter Tryz.func106, Tryz.ntmps106
  go_wp2_with (go_at_call 116; refine (innerFormat_any n hn _ h hlt).mono ?_; rintro e w' ⟨rfl, hb⟩)
  go_ret
  exact ⟨rfl, hb⟩
end Go.Proofs.YtfeaonbeklmfgaaGreatDoor
