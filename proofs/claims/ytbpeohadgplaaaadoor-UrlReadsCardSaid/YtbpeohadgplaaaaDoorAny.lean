/- What the library's IndexRune and IndexAny answer where the bytes that are looked for are below 128, for any text of fewer than 4294967281 bytes, whatever bytes it has. -/
import Derived.Test.YtbpeohadgplaaaaDoorShelf
import Derived.Test.YtbpeohadgplaaaaDoorWalkD
import Derived.Test.YtbpeohadgplaaaaDoorForms
import Derived.Laws.RangeAny
import Derived.Deep.LoopGhost
import Derived.WalkMore
import Derived.Lib.OthersKept
import Derived.Deep.RegionWith
namespace Go.Proofs.YtbpeohadgplaaaaDoor
set_option maxRecDepth 8000
open Go.RowKit

def Low (s : ByteArray) : Prop := ∀ (j : Nat) b, s.data.toList[j]? = some b → b.toNat < 128

theorem encode_high (r : Int) (h : 128 ≤ r) : ∃ (m : Nat) (rs : ByteArray) (hm : m < rs.size), Utf8.encode r = rs ∧ rs.size = m + 1 ∧ 1 ≤ m ∧ m ≤ 3 ∧ 128 ≤ (rs[m]'hm).toNat := by
  obtain ⟨c, hc, hc2⟩ : ∃ c : Nat, c = (if Utf8.valid r then r.toNat else Utf8.runeError) ∧ 128 ≤ c := ⟨_, rfl, by
    split
    · omega
    · decide⟩
  unfold Utf8.encode
  simp only
  rw [← hc, if_neg (by omega)]
  split
  · refine ⟨1, _, by show 1 < 2; omega, rfl, rfl, by omega, by omega, ?_⟩
    show 128 ≤ (UInt8.ofNat (0x80 + c % 64)).toNat
    simp
    omega
  · split
    · refine ⟨2, _, by show 2 < 3; omega, rfl, rfl, by omega, by omega, ?_⟩
      show 128 ≤ (UInt8.ofNat (0x80 + c % 64)).toNat
      simp
      omega
    · refine ⟨3, _, by show 3 < 4; omega, rfl, rfl, by omega, by omega, ?_⟩
      show 128 ≤ (UInt8.ofNat (0x80 + c % 64)).toNat
      simp
      omega

theorem run_rune_string (w : World) (r : Int) : (convert 21 9 (.int .i32 r)).run Tryd.prog w = .ok (.string (Utf8.encode r)) w := by
  simp [convert, run_underlying Tryd.underlying21, run_underlying Tryd.underlying9, go_sem, Conv.intToString]

theorem indexByte_low (l : List UInt8) (c : UInt8) (h : ∀ x ∈ l, x ≠ c) : Lib.indexByte l c = -1 := by
  rcases Pct.indexByte_cases l c with h1 | ⟨i, hi⟩
  · exact h1
  · obtain ⟨hlt, hcut⟩ := Pct.cutAt_found l c i hi
    rw [Pct.cutAt_none c l h] at hcut
    simp at hcut

theorem indexByteQ (s : ByteArray) (c : UInt8) (w : World) : Calls Tryd.prog 101 #[.string s, .int .u8 (c.toNat : Int)] w fun e w' => e = .returned (.int .i64 (Lib.indexByte s.data.toList c)) ∧ w' = w :=
  (Tryd.strings_IndexByte s (c.toNat : Int) w).mono fun e w' ⟨he, hw⟩ => ⟨by rw [he]; simp, hw⟩
set_option maxHeartbeats 800000 in
theorem indexRune_high (s : ByteArray) (r : Int) (w : World) (hs : Low s) (h1 : 128 ≤ r) (h2 : r ≠ 65533) (h3 : Lib.validRune r = true) :
    Calls Tryd.prog 95 #[.string s, .int .i32 r] w fun e w' => e = .returned (.int .i64 (-1)) ∧ Below w.heap.size w w' := by
  obtain ⟨m, rs, hm, hrs, hsz, hm1, hm3, hhi⟩ := encode_high r h1
  have hcv := fun w' => run_rune_string w' r
  rw [hrs] at hcv
  clear hrs
  have n1 : ¬ r < 128 := by omega
  have n2 : (r == 65533) = false := beq_eq_false_iff_ne.2 h2
  go_enter Tryd.func95, Tryd.ntmps95
  go_wp2_with (first
    | (go_at_call 118; refine (Tryd.utf8_ValidRune _ _).mono ?_; rintro e w' ⟨rfl, rfl⟩; rw [h3])
    | (go_at_call 101; fail))
  go_step3
  go_wp2_with (go_at_call 101; fail)
  go_loop [9] (fun i => i = .int .i64 (m : Int)) (fun _ => 0)
  case atStart => simp
  case round =>
    obtain rfl := hrel
    by_cases hlt : m < s.size
    · have hne : ((s[m].toNat : Int) != (rs[m].toNat : Int)) = true := by
        have := hs m s[m] (Lib.data_getElem? s m hlt)
        simp
        omega
      have hb : Lib.indexByte ((s.extract (m + 1) s.size).data.toList) rs[m] = -1 := by
        refine indexByte_low _ _ fun x hx => ?_
        have hx' : x ∈ s.data.toList := by
          rw [extract_toList] at hx
          exact List.mem_of_mem_drop hx
        obtain ⟨j, hj, rfl⟩ := List.getElem_of_mem hx'
        have := hs j _ (List.getElem?_eq_getElem hj)
        intro e
        rw [e] at this
        omega
      have HB := Lib.hid (fun w2 : World => show Calls Tryd.prog 101 #[.string (s.extract (m + 1) s.size), .int .u8 (rs[m].toNat : Int)] w2 fun e w' => e = .returned (.int .i64 (-1)) ∧ w' = w2 from by rw [← hb]; exact indexByteQ _ _ w2)
      clear hb
      have i1 : (0 : Int) ≤ (m : Int) := by omega
      have i2 : (m : Int) < (s.size : Int) := by omega
      have i3 : (m : Int) < (rs.size : Int) := by omega
      have i4 : (m : Int) + 1 ≤ (s.size : Int) := by omega
      have i5 : (0 : Int) ≤ (m : Int) + 1 := by omega
      have i6 : IntKind.i64.wrap ((m : Int) + 1) = (m : Int) + 1 := by rw [IntKind.wrap_i64]; omega
      clear hsz
      go_wp2
      go_step3
      go_wp2
      go_quiet (fail)
      have hbq := below_drewN (Below.refl w'.heap.size w') nq
      generalize w'.drewN nq = w2 at hbq ⊢
      go_wp2
      go_quiet ((go_at_call 101; exact Calls.quiet_of_same (HB.out _)))
      go_wp2
      rw [Exit.noGoto_ret]
      go_wp2
      rw [Exit.noGoto_ret]
      go_wp2
      go_ret
      exact ⟨rfl, below_drewN hbq _⟩
    · go_wp2
      go_ret
      exact ⟨rfl, Below.refl _ _⟩

set_option maxHeartbeats 800000 in
theorem indexRune_err (s : ByteArray) (w : World) (hs : Low s) :
    Calls Tryd.prog 95 #[.string s, .int .i32 65533] w fun e w' => e = .returned (.int .i64 (-1)) ∧ Below w.heap.size w w' := by
  have HA := Lib.hid hs
  clear hs
  go_enter Tryd.func95, Tryd.ntmps95
  go_wp2
  go_loopg [5, 6] s.size (fun g _ _ wx => ∃ i : Nat, i + g = s.size ∧ wx = w.iter s i)
  case atStart => exact ⟨0, by omega, rfl⟩
  case round =>
    obtain ⟨i, hig, rfl⟩ := hrel
    cases gk with
    | zero =>
      obtain rfl : i = s.size := by omega
      have hnx := run_next_end (P := Tryd.prog) w s s.size
      go_wp2
      go_ret
      exact ⟨rfl, (Below.refl _ _).alloc (Nat.le_refl _) _⟩
    | succ g =>
      have hi : i < s.size := by omega
      have hx128 : s[i].toNat < 128 := HA.out i s[i] (Lib.data_getElem? s i hi)
      have hnx := fun ty => run_next_ascii (P := Tryd.prog) w s i ty hi hx128
      have hne : ((s[i].toNat : Int) == 65533) = false := beq_eq_false_iff_ne.2 (by omega)
      go_wp2
      go_roundg g
      case measure => omega
      case rel => exact ⟨i + 1, by omega, rfl⟩

theorem get_byte (s : ByteArray) (p : Nat) (h : p < s.size) : s.get! p = s[p]'h := by
  simp [ByteArray.get!, getElem!_pos, h]
  rfl

/-- What is decoded at a byte from 128 on: a rune from 128 on that is one; the bytes behind that go with it are from 128 on, too. -/
theorem decode_more (s : ByteArray) (p : Nat) (h : p < s.size) (ha : 128 ≤ (s[p]'h).toNat) :
    Utf8.valid (((Utf8.decode s p).1 : Nat) : Int) = true ∧ ∀ k, 1 ≤ k → k < (Utf8.decode s p).2 → 128 ≤ (s.get! (p + k)).toNat := by
  have hn : ¬ (s[p]'h).toNat < 128 := by omega
  have hl : (s[p]'h).toNat < 256 := (s[p]'h).toNat_lt
  have e0 : s.get! (p + 0) = s[p]'h := get_byte s p h
  have hb : ∀ k, (s.get! (p + k)).toNat < 256 := fun k => (s.get! (p + k)).toNat_lt
  have h1 := hb 1; have h2 := hb 2; have h3 := hb 3
  simp only [Utf8.decode, e0, hn, if_false]
  split
  · rename_i hc
    simp only [Bool.and_eq_true, beq_iff_eq, decide_eq_true_eq] at hc
    split
    · refine ⟨?_, fun k k1 k2 => ?_⟩
      · simp [Utf8.valid]; omega
      · obtain rfl : k = 1 := by omega
        omega
    · exact ⟨by decide, fun k k1 k2 => by omega⟩
  · split
    · rename_i hc
      simp only [Bool.and_eq_true, beq_iff_eq, decide_eq_true_eq] at hc
      split
      · rename_i hv
        simp only [Bool.and_eq_true, decide_eq_true_eq] at hv
        refine ⟨hv.2, fun k k1 k2 => ?_⟩
        have : k = 1 ∨ k = 2 := by omega
        rcases this with rfl | rfl <;> omega
      · exact ⟨by decide, fun k k1 k2 => by omega⟩
    · split
      · rename_i hc
        simp only [Bool.and_eq_true, beq_iff_eq, decide_eq_true_eq] at hc
        split
        · rename_i hv
          simp only [Bool.and_eq_true, decide_eq_true_eq] at hv
          refine ⟨hv.2, fun k k1 k2 => ?_⟩
          have : k = 1 ∨ k = 2 ∨ k = 3 := by omega
          rcases this with rfl | rfl | rfl <;> omega
        · exact ⟨by decide, fun k k1 k2 => by omega⟩
      · exact ⟨by decide, fun k k1 k2 => by omega⟩

theorem indexRune_any (s : ByteArray) (r : Nat) (w : World) (hs : Low s) (h1 : 128 ≤ r) (h3 : Utf8.valid (r : Int) = true) :
    Calls Tryd.prog 95 #[.string s, .int .i32 (r : Int)] w fun e w' => e = .returned (.int .i64 (-1)) ∧ Below w.heap.size w w' := by
  by_cases h2 : r = 65533
  · subst h2
    exact indexRune_err s w hs
  · refine indexRune_high s (r : Int) w hs (by omega) (by omega) ?_
    unfold Utf8.valid at h3
    unfold Lib.validRune
    simp at h3 ⊢
    omega

theorem low_not {chars : ByteArray} (hc : Low chars) {b : UInt8} (h : 128 ≤ b.toNat) : chars.data.toList.contains b = false := by
  rw [List.contains_eq_any_beq, List.any_eq_false]
  intro x hx
  obtain ⟨j, hj, rfl⟩ := List.getElem_of_mem hx
  have := hc j _ (List.getElem?_eq_getElem hj)
  intro e
  rw [beq_iff_eq.1 e] at h
  omega
theorem noAny_more {s chars : ByteArray} (hc : Low chars) {i n : Nat} (h : Lib.NoAny s.data.toList chars.data.toList i) (hn : ∀ k, 0 ≤ k → k < n → ∀ hk : i + k < s.size, 128 ≤ (s[i + k]'hk).toNat) :
    Lib.NoAny s.data.toList chars.data.toList (i + n) := by
  intro j b hj hb
  by_cases hji : j < i
  · exact h j b hji hb
  · obtain ⟨k, rfl⟩ : ∃ k, j = i + k := ⟨j - i, by omega⟩
    have hlt : i + k < s.data.toList.length := (List.getElem?_eq_some_iff.1 hb).1
    have hlt' : i + k < s.size := by simpa using hlt
    have e : s[i + k]'hlt' = b := by
      have := Lib.data_getElem? s (i + k) hlt'
      rw [hb] at this
      exact (Option.some.inj this).symm
    have := hn k (by omega) (by omega) hlt'
    rw [e] at this
    exact low_not hc this

set_option maxHeartbeats 1600000 in
theorem indexAny_short (s chars : ByteArray) (w : World) (hc : Low chars) (h2 : 2 ≤ chars.size) (h8 : s.size ≤ 8) :
    Calls Tryd.prog 71 #[.string s, .string chars] w fun e w' => e = .returned (.int .i64 (Lib.indexAny s.data.toList chars.data.toList)) ∧ Below w.heap.size w w' := by
  have HC := Lib.hid hc
  clear hc
  have hemp : chars.toList.isEmpty = false := by
    rw [Lib.toList_data]
    cases h : chars.data.toList with
    | nil => have := Lib.size_eq chars; rw [h, List.length_nil] at this; omega
    | cons _ _ => rfl
  have hn1 : ((chars.size : Int) == 1) = false := beq_eq_false_iff_ne.2 (by omega)
  have h8z : decide ((8 : Int) < (s.size : Int)) = false := decide_eq_false (by omega)
  go_enter Tryd.func71, Tryd.ntmps71
  go_wp2_with (go_at_call 96; refine (Tryd.strings_shouldUseASCIISet _ _).mono ?_; rintro e w' ⟨rfl, hw⟩; rw [hw, h8z])
  go_loopg [9, 10] s.size (fun g _ _ wx => ∃ i : Nat, s.size ≤ i + g ∧ wx.heap[w.heap.size]? = some (.stringIter s i) ∧ Below w.heap.size w wx ∧ Lib.NoAny s.data.toList chars.data.toList i)
  case atStart => exact ⟨0, by omega, w.iter_heap s 0, (Below.refl _ _).alloc (Nat.le_refl _) _, Lib.NoAny.zero _ _⟩
  case round =>
    obtain ⟨i, hig, hit, hb, hno⟩ := hrel
    have HN := Lib.hid hno
    clear hno
    have hbs := hb.size
    by_cases hi : i < s.size
    · obtain ⟨g, rfl⟩ : ∃ g, gk = g + 1 := ⟨gk - 1, by omega⟩
      by_cases h128 : s[i].toNat < 128
      · obtain ⟨x, hx⟩ : ∃ x : UInt8, s[i]'hi = x := ⟨_, rfl⟩
        have HX := Lib.hid (show s.data.toList[i]? = some x by rw [← hx]; exact Lib.data_getElem? s i hi)
        have hnx := fun ty => Lib.run_next_ascii_at (P := Tryd.prog) wr w.heap.size s i ty hit hi h128
        rw [hx] at hnx h128
        clear hx
        have hit' := Lib.iterAt_heap wr w.heap.size s i (i + 1) hit
        have hb' := Lib.below_iterAt hb (Nat.le_refl _) s (i + 1)
        generalize wr.iterAt w.heap.size s (i + 1) = w2 at hnx hit' hb'
        have hcon := Lib.contains_iff_indexByte chars.data.toList x
        have hback : ((x.toNat : Int)).toNat.toUInt8 = x := by simp
        cases hin : chars.data.toList.contains x
        · rw [hin] at hcon
          have hlt : ¬ ((0 : Int) ≤ Lib.indexByte chars.data.toList x) := of_decide_eq_false hcon.symm
          clear hcon
          go_wp2_with (go_at_call 95; refine (Tryd.strings_IndexRune_ascii _ _ _ (by omega) (by omega)).mono ?_; rintro e w' ⟨rfl, hw⟩; rw [hw, hback])
          go_roundg g
          case measure => omega
          case rel => exact ⟨i + 1, by omega, hit', hb', HN.out.succ HX.out hin⟩
        · rw [hin] at hcon
          have hge : (0 : Int) ≤ Lib.indexByte chars.data.toList x := of_decide_eq_true hcon.symm
          clear hcon
          go_wp2_with (go_at_call 95; refine (Tryd.strings_IndexRune_ascii _ _ _ (by omega) (by omega)).mono ?_; rintro e w' ⟨rfl, hw⟩; rw [hw, hback])
          go_ret
          exact ⟨by rw [Lib.indexAny_hit HN.out HX.out hin]; rfl, hb'⟩
      · have hd := decode_high s i hi (by omega)
        obtain ⟨hv, hm⟩ := decode_more s i hi (by omega)
        have hnx := fun ty => Lib.run_next_any_at (P := Tryd.prog) wr w.heap.size s i ty hit hi
        generalize Utf8.decode s i = rn at hd hv hm hnx
        obtain ⟨r, n⟩ := rn
        simp only at hd hv hm hnx
        have hit' := Lib.iterAt_heap wr w.heap.size s i (i + n) hit
        have hb' := Lib.below_iterAt hb (Nat.le_refl _) s (i + n)
        generalize wr.iterAt w.heap.size s (i + n) = w2 at hnx hit' hb'
        have HM := Lib.hid (noAny_more HC.out HN.out (n := n) (fun k _ hk hlt => by
          by_cases hk0 : k = 0
          · subst hk0
            simpa using h128
          · have := hm k (by omega) hk
            rwa [get_byte s (i + k) hlt] at this))
        clear hm
        have hlt2 : w.heap.size < w2.heap.size := (Array.getElem?_eq_some_iff.1 hit').1
        go_wp2_with (go_at_call 95; refine (indexRune_any chars r _ HC.out hd.1 hv).mono ?_; rintro e w3 ⟨rfl, hb3⟩)
        go_roundg g
        case measure => omega
        case rel => exact ⟨i + n, by omega, (hb3.block _ hlt2).trans hit', hb'.trans (hb3.mono hb'.size), HM.out⟩
    · have hnx := fun ty => Lib.run_next_end_at (P := Tryd.prog) wr w.heap.size s i ty hit hi
      go_wp2
      go_ret
      exact ⟨by rw [Lib.indexAny_none (by rw [← Lib.size_eq]; exact fun j b hj hb => HN.out j b (by omega) hb)]; rfl, hb⟩

theorem indexAny_any (s chars : ByteArray) (w : World) (hc : Low chars) (h2 : 2 ≤ chars.size) (hcs : chars.size ≤ 100) (hs : s.size ≤ 1073741824) :
    Calls Tryd.prog 71 #[.string s, .string chars] w fun e w' => e = .returned (.int .i64 (Lib.indexAny s.data.toList chars.data.toList)) ∧ Below w.heap.size w w' := by
  by_cases h8 : s.size ≤ 8
  · exact indexAny_short s chars w hc h2 h8
  · refine (Tryd.strings_IndexAny_long (zero_of_info (n := 256) (by kernel_rfl)).1 s chars w h2 (by omega) (by omega) (by omega) hc).mono fun e w' ⟨h1, h2⟩ => ⟨h1, ?_⟩
    rw [h2]
    exact ((Below.refl _ _).alloc (Nat.le_refl _) _).alloc (by simp) _
end Go.Proofs.YtbpeohadgplaaaaDoor
