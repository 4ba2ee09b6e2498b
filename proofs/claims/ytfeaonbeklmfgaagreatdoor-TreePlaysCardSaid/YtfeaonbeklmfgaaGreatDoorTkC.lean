/- What strconv.ParseUint answers at base 16 and 64 bits, for any text of at most 2^40 bytes: of sixteen digits their number. -/
import Derived.Test.YtfeaonbeklmfgaaGreatDoorTkB
import Derived.Lib.ConvBytes
import Derived.Laws.Closers25b
namespace Go.Proofs.YtfeaonbeklmfgaaGreatDoor
set_option maxRecDepth 8000
open Go.RowKit

/-- Sixteen digits. -/
def Good (l : List UInt8) : Prop := l.length = 16 ∧ l.all Tk.isHx = true
theorem Good.step {l : List UInt8} (h : Good l) (k : Nat) (hk : k < l.length) : Tk.isHx l[k] = true ∧ Tk.read (l.take (k + 1)) = 16 * Tk.read (l.take k) + Tk.val l[k] ∧ Tk.read (l.take k) < 1152921504606846976 := by
  refine ⟨List.all_eq_true.1 h.2 _ (List.getElem_mem hk), ?_, ?_⟩
  · rw [List.take_succ_eq_append_getElem hk, Tk.read_snoc]
  · have h1 := Tk.read_lt (l.take k).length (l.take k) rfl (List.all_eq_true.2 fun x hx => List.all_eq_true.1 h.2 x (List.mem_of_mem_take hx))
    have h2 : (l.take k).length ≤ 15 := by have := h.1; rw [List.length_take]; omega
    exact Nat.lt_of_lt_of_le h1 (Nat.le_trans (Nat.pow_le_pow_right (by omega) h2) (by decide))
theorem or_letter (c : Nat) (h1 : 97 ≤ c) (h2 : c ≤ 102) : bits .or .u8 (c : Int) 32 = (c : Int) := by
  have : c = 97 ∨ c = 98 ∨ c = 99 ∨ c = 100 ∨ c = 101 ∨ c = 102 := by omega
  rcases this with rfl | rfl | rfl | rfl | rfl | rfl <;> decide +kernel
theorem lower_to (c lo : Int) (h : bits .or .u8 c 32 = lo) (w : World) :
    Calls Tryz.prog 110 #[.int .u8 c] w fun e w' => e = .returned (.int .u8 lo) ∧ w' = w := by
  subst h
  exact Tryz.internal_strconv_lower c w
/-- A number, or an error (1: too great, 2: none). -/
def PU (l : List UInt8) (e : Ending) : Prop :=
  (∃ n : Nat, n < 18446744073709551616 ∧ e = .returned (.tuple #[.int .u64 n, .nilIface]) ∧ (Good l → n = Tk.read l)) ∨
  (∃ x y : Int, (y = 1 ∨ y = 2) ∧ e = .returned (.tuple #[.int .u64 x, .iface 142 (.int .i64 y)]) ∧ ¬ Good l)

set_option maxHeartbeats 3200000 in
theorem innerParse_any (l : List UInt8) (hne : l ≠ []) (hmax : l.length ≤ 1099511627776) (w : World) :
    Calls Tryz.prog 103 #[.string (S l), .int .i64 16, .int .i64 64] w fun e w' => PU l e ∧ Below w.heap.size w w' := by
  have hsz : (S l).size = l.length := rfl
  have hemp : (S l).toList.isEmpty = false := by
    rw [S_empty]
    cases l with
    | nil => exact absurd rfl hne
    | cons _ _ => rfl
  have hcv := Lib.run_convert_string_bytes (P := Tryz.prog) w 9 94 5 (S l) (u := .string) Tryz.underlying9 Tryz.underlying94 Tryz.underlying5
  have hB : ∀ j (h : j < l.length), (Lib.bytesWorld w 5 (S l)).cell? ⟨w.heap.size, j, none⟩ = some (B l[j]) := fun j hj => by
    rw [Lib.bytesWorld_cell w 5 (S l) j hj, S_toList]
    simp [List.getD, hj]
  have hBel : Below w.heap.size w (Lib.bytesWorld w 5 (S l)) := Lib.bytesWorld_below w 5 (S l)
  obtain ⟨W1, hW1⟩ : ∃ W1, W1 = Lib.bytesWorld w 5 (S l) := ⟨_, rfl⟩
  rw [← hW1] at hcv hB hBel
  clear hW1
  have hmv : IntKind.u64.wrap (IntKind.u64.wrap 18446744073709551616 - 1) = 18446744073709551615 := by
    rw [IntKind.wrap_u64, IntKind.wrap_u64]
    decide
  rw [hsz] at hcv
  have HS := Lib.hid hsz
  clear hsz
  go_enter Tryz.func103, Tryz.ntmps103
  go_wp2
  go_loop [12, 13, 101] (fun vu vn vi => ∃ (k acc : Nat) (a : Int), vu = .bool false ∧ vn = .int .u64 a ∧ vi = .int .i64 k ∧ k ≤ l.length ∧ Hid (a = (acc : Int) ∧ acc < 18446744073709551616 ∧ (Good l → acc = Tk.read (l.take k))))
    (fun _ _ vi => l.length - (intOf vi).toNat)
  case atStart => exact ⟨0, 0, 0, rfl, rfl, rfl, by omega, Lib.hid ⟨rfl, by omega, fun _ => rfl⟩⟩
  case round =>
    obtain ⟨k, acc, a, rfl, rfl, rfl, hk, hh⟩ := hrel
    obtain ⟨ha, hacc, hgd⟩ := hh.out
    have HGD := Lib.hid hgd
    have HA := Lib.hid ha
    clear hh hgd
    have a0 : 0 ≤ a := by omega
    have a1 : a < 18446744073709551616 := by omega
    by_cases hkn : k < l.length
    · have hc := hB k hkn
      have HSt := Lib.hid (fun h : Good l => h.step k hkn)
      generalize l[k] = c at hc HSt
      have hc256 : c.toNat < 256 := c.toNat_lt
      clear hB
      obtain ⟨lo, hlo⟩ : ∃ lo, bits .or .u8 (c.toNat : Int) 32 = lo := ⟨_, rfl⟩
      have hlo0 : 0 ≤ lo := by rw [← hlo]; exact bits_lo_u8 .or (c.toNat : Int) 32
      have hlo1 : lo ≤ 255 := by rw [← hlo]; exact bits_hi_u8 .or (c.toNat : Int) 32
      have HLo := Lib.hid hlo
      have hlow := lower_to (c.toNat : Int) lo hlo
      have hgc : Hid (Good l → (48 ≤ c.toNat ∧ c.toNat ≤ 57) ∨ (97 ≤ c.toNat ∧ c.toNat ≤ 102 ∧ lo = (c.toNat : Int))) := Lib.hid fun h => by
        have h1 := (HSt.out h).1
        unfold Tk.isHx at h1
        rcases of_decide_eq_true h1 with h2 | h2
        · exact .inl h2
        · exact .inr ⟨h2.1, h2.2, by rw [← HLo.out]; exact or_letter c.toNat h2.1 h2.2⟩
      clear hlo
      by_cases hdig : 48 ≤ c.toNat ∧ c.toNat ≤ 57
      · obtain ⟨hd0, hd1⟩ := hdig
        by_cases hcut : 1152921504606846976 ≤ acc
        · have icut : 1152921504606846976 ≤ a := by omega
          have hno : Hid (¬ Good l) := Lib.hid fun h => by
            have h1 := (HSt.out h).2.2
            have h2 := HGD.out h
            omega
          clear hcut hacc ha
          go_wp2
          go_ret2
          exact ⟨.inr ⟨_, _, .inl rfl, rfl, hno.out⟩, hBel⟩
        · have HN : Hid (a * 16 + ((c.toNat : Int) - 48) = ((acc * 16 + (c.toNat - 48) : Nat) : Int) ∧ acc * 16 + (c.toNat - 48) < 18446744073709551616 ∧ (Good l → acc * 16 + (c.toNat - 48) = Tk.read (l.take (k + 1)))) := Lib.hid ⟨by omega, by omega, fun h => by
            rw [(HSt.out h).2.1, ← HGD.out h]
            unfold Tk.val
            rw [if_pos hd1]
            omega⟩
          have icut : a < 1152921504606846976 := by omega
          clear hcut hacc ha
          go_wp2
          refine ⟨⟨k + 1, acc * 16 + (c.toNat - 48), a * 16 + ((c.toNat : Int) - 48), rfl, (by first | rfl | (congr 1; omega)), (by first | rfl | (congr 1; omega)), by omega, HN⟩, by simp [intOf]; omega⟩
      · by_cases hlet : 97 ≤ lo ∧ lo ≤ 122
        · have hc95 : c.toNat ≠ 95 := fun e => by
            have h1 := HLo.out
            rw [e, show bits .or .u8 ((95 : Nat) : Int) 32 = 127 by decide +kernel] at h1
            omega
          obtain ⟨hl0, hl1⟩ := hlet
          by_cases hbig : 103 ≤ lo
          · have hno : Hid (¬ Good l) := Lib.hid fun h => by
              rcases hgc.out h with h1 | h1 <;> omega
            clear hacc ha
            go_wp2_with (go_at_call 110; refine (hlow _).mono ?_; rintro e w' ⟨rfl, rfl⟩)
            all_goals go_ret2
            all_goals exact ⟨.inr ⟨_, _, .inr rfl, rfl, hno.out⟩, hBel⟩
          · by_cases hcut : 1152921504606846976 ≤ acc
            · have icut : 1152921504606846976 ≤ a := by omega
              have hno : Hid (¬ Good l) := Lib.hid fun h => by
                have h1 := (HSt.out h).2.2
                have h2 := HGD.out h
                omega
              clear hcut hacc ha
              go_wp2_with (go_at_call 110; refine (hlow _).mono ?_; rintro e w' ⟨rfl, rfl⟩)
              all_goals go_ret2
              all_goals exact ⟨.inr ⟨_, _, .inl rfl, rfl, hno.out⟩, hBel⟩
            · have HN : Hid (a * 16 + (lo - 97 + 10) = ((acc * 16 + (lo - 97 + 10).toNat : Nat) : Int) ∧ acc * 16 + (lo - 97 + 10).toNat < 18446744073709551616 ∧ (Good l → acc * 16 + (lo - 97 + 10).toNat = Tk.read (l.take (k + 1)))) := Lib.hid ⟨by omega, by omega, fun h => by
                rw [(HSt.out h).2.1, ← HGD.out h]
                rcases hgc.out h with h1 | ⟨h1, h2, h3⟩
                · exact absurd h1 hdig
                · unfold Tk.val
                  rw [if_neg (by omega), h3]
                  omega⟩
              have icut : a < 1152921504606846976 := by omega
              clear hcut hacc ha
              go_wp2_with (go_at_call 110; refine (hlow _).mono ?_; rintro e w' ⟨rfl, rfl⟩)
              all_goals refine ⟨⟨k + 1, acc * 16 + (lo - 97 + 10).toNat, a * 16 + (lo - 97 + 10), rfl, (by first | rfl | (congr 1; omega)), (by first | rfl | (congr 1; omega)), by omega, HN⟩, by simp [intOf]; omega⟩
        · have hno : Hid (¬ Good l) := Lib.hid fun h => by
            rcases hgc.out h with h1 | h1
            · exact hdig h1
            · omega
          clear hacc ha
          go_wp2_with (go_at_call 110; refine (hlow _).mono ?_; rintro e w' ⟨rfl, rfl⟩)
          all_goals go_ret2
          all_goals exact ⟨.inr ⟨_, _, .inr rfl, rfl, hno.out⟩, hBel⟩
    · have hkk : k = l.length := by omega
      have hend : Hid (PU l (.returned (.tuple #[.int .u64 a, .nilIface]))) := Lib.hid (.inl ⟨acc, hacc, by rw [HA.out], fun h => by rw [HGD.out h, List.take_of_length_le (by omega)]⟩)
      clear hacc ha
      subst hkk
      go_wp2
      go_ret2
      exact ⟨hend.out, hBel⟩
theorem parse_empty (w : World) :
    Calls Tryz.prog 103 #[.string (S []), .int .i64 16, .int .i64 64] w fun e w' => PU [] e ∧ Below w.heap.size w w' := by
  have hemp : (S []).toList.isEmpty = true := by rw [S_empty]; rfl
  go_enter Tryz.func103, Tryz.ntmps103
  go_wp2
  go_ret2
  exact ⟨.inr ⟨_, _, .inr rfl, rfl, fun h => by have := h.1; simp at this⟩, Below.refl _ _⟩
theorem inner_any (l : List UInt8) (hmax : l.length ≤ 1099511627776) (w : World) :
    Calls Tryz.prog 103 #[.string (S l), .int .i64 16, .int .i64 64] w fun e w' => PU l e ∧ Below w.heap.size w w' := by
  by_cases h : l = []
  · subst h
    exact parse_empty w
  · exact innerParse_any l h hmax w
/-- The two errors that strconv keeps. -/
structure Errs (w : World) : Prop where
  syn : ∃ ev, w.cell? ⟨2, 0, none⟩ = some ev ∧ (ev = .nilIface ∨ ∃ te pe, ev = .iface te pe)
  rng : ∃ ev, w.cell? ⟨3, 0, none⟩ = some ev ∧ (ev = .nilIface ∨ ∃ te pe, ev = .iface te pe)
  lts : 2 < w.heap.size
  ltr : 3 < w.heap.size
theorem Errs.below {B : Nat} {w w' : World} (h : Errs w) (hb : Below B w w') (h1 : 2 < B) (h2 : 3 < B) : Errs w' := by
  have hs := hb.size
  have hl := h.lts
  have hr := h.ltr
  refine ⟨?_, ?_, by omega, by omega⟩
  · obtain ⟨ev, he, hk⟩ := h.syn
    exact ⟨ev, (hb.cell (p := ⟨2, 0, none⟩) h1).trans he, hk⟩
  · obtain ⟨ev, he, hk⟩ := h.rng
    exact ⟨ev, (hb.cell (p := ⟨3, 0, none⟩) h2).trans he, hk⟩
/-- The number of sixteen digits; or of another text some number, or an error. -/
def PV (l : List UInt8) (e : Ending) : Prop :=
  (∃ n : Nat, n < 18446744073709551616 ∧ e = .returned (.tuple #[.int .u64 n, .nilIface]) ∧ (Good l → n = Tk.read l)) ∨
  (∃ (x : Int) (t : TypeId) (v : Value), e = .returned (.tuple #[.int .u64 x, .iface t v]) ∧ ¬ Good l)
theorem toErr_any (fn : ByteArray) (l : List UInt8) (hmax : l.length ≤ 1099511627776) (y : Int) (hy : y = 1 ∨ y = 2) (w : World) (hE : Errs w) :
    Calls Tryz.prog 104 #[.string fn, .string (S l), .int .i64 16, .int .i64 64, .iface 142 (.int .i64 y)] w fun e w' => (∃ t v, e = .returned (.iface t v)) ∧ Below w.heap.size w w' := by
  have hsz : (S l).size ≤ 281474976710656 := by show l.length ≤ _; omega
  obtain ⟨evs, hs1, hs2⟩ := hE.syn
  obtain ⟨evr, hr1, hr2⟩ := hE.rng
  rcases hy with rfl | rfl
  · exact (Tryz.strconv_toError_range fn (S l) 16 64 evr w hsz hr1 hr2).mono fun e w' ⟨N, he, _, _, hb⟩ => ⟨⟨_, _, he⟩, hb⟩
  · exact (Tryz.strconv_toError_syntax fn (S l) 16 64 evs w hsz hs1 hs2).mono fun e w' ⟨N, he, _, _, hb⟩ => ⟨⟨_, _, he⟩, hb⟩
theorem parseUint_any (l : List UInt8) (hmax : l.length ≤ 1099511627776) (w : World) (hE : Errs w) :
    Calls Tryz.prog 98 #[.string (S l), .int .i64 16, .int .i64 64] w fun e w' => PV l e ∧ Below w.heap.size w w' := by
  have hP := inner_any l hmax w
  have hl := hE.lts
  have hr := hE.ltr
  go_enter Tryz.func98, Tryz.ntmps98
  go_wp2_with (first
    | (go_at_call 103; refine hP.mono ?_; rintro e w1 ⟨⟨n, hn, rfl, hg⟩ | ⟨x, y, hy, rfl, hg⟩, hb⟩)
    | (go_at_call 104; refine (toErr_any _ l hmax y hy _ (hE.below hb hl hr)).mono ?_; rintro e w2 ⟨⟨t, v, rfl⟩, hb2⟩))
  all_goals go_ret2
  · exact ⟨.inl ⟨n, hn, rfl, hg⟩, hb⟩
  · exact ⟨.inr ⟨_, _, _, rfl, hg⟩, hb.trans (hb2.mono hb.size)⟩
end Go.Proofs.YtfeaonbeklmfgaaGreatDoor
