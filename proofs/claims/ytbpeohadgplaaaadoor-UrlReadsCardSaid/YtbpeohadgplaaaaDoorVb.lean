/- What package url's small, inOneWay, cutAhead and portOf answer, for any text of at most 2^30 bytes, where the table of digits reads as its text lays it. -/
import Derived.Test.YtbpeohadgplaaaaDoorVa
import Derived.Test.YtbpeohadgplaaaaDoorUrlD
import Derived.Lib.ConvBytes
import Derived.Lib.BufferMore
namespace Go.Proofs.YtbpeohadgplaaaaDoor
set_option maxRecDepth 8000
open Go.RowKit

/-- The row of a text's bytes, of which the first k are in small letters. -/
def SmallInv (w0 : World) (s : ByteArray) (k : Nat) (wr : World) : Prop :=
  ∃ cs : Array Value, wr.heap[w0.heap.size]? = some (.cells cs 5 (cs.size, cs.size + 1)) ∧ s.size ≤ cs.size ∧ (∀ j (hj : j < s.size), cs[j]? = some (B (if j < k then Url.lower s[j] else s[j]))) ∧ Below w0.heap.size w0 wr

theorem SmallInv.cell {w0 wr : World} {s : ByteArray} {k : Nat} (h : SmallInv w0 s k wr) (j : Nat) (hj : j < s.size) : wr.cell? ⟨w0.heap.size, j, none⟩ = some (B (if j < k then Url.lower s[j] else s[j])) := by
  obtain ⟨cs, h1, _, h3, _⟩ := h
  rw [cell_of_row wr _ j _ _ _ h1]
  exact h3 j hj
theorem SmallInv.free {w0 wr : World} {s : ByteArray} {k : Nat} (h : SmallInv w0 s k wr) (j : Nat) (hj : j < s.size) : wr.frozen? ⟨w0.heap.size, j, none⟩ = false := by
  obtain ⟨cs, h1, h2, _, _⟩ := h
  simp [World.frozen?, h1]
  omega
theorem SmallInv.set {w0 wr : World} {s : ByteArray} {k : Nat} (h : SmallInv w0 s k wr) (hk : k < s.size) : SmallInv w0 s (k + 1) (wr.setCell ⟨w0.heap.size, k, none⟩ (B (Url.lower s[k]))) := by
  obtain ⟨cs, h1, h2, h3, h4⟩ := h
  refine ⟨cs.setIfInBounds k (B (Url.lower s[k])), by rw [Lib.heap_setCell_same h1 (i := k) (B (Url.lower s[k]))]; simp, by simpa using h2, fun j hj => ?_, h4.setCell (Nat.le_refl _) _⟩
  by_cases e : j = k
  · subst e
    rw [if_pos (by omega), Array.getElem?_setIfInBounds_self_of_lt (by omega)]
  · have := h3 j hj
    rw [Array.getElem?_setIfInBounds_ne (by omega), this]
    by_cases hjk : j < k
    · rw [if_pos hjk, if_pos (by omega)]
    · rw [if_neg hjk, if_neg (by omega)]
theorem SmallInv.skip {w0 wr : World} {s : ByteArray} {k : Nat} (h : SmallInv w0 s k wr) (hk : k < s.size) (he : Url.lower s[k] = s[k]) : SmallInv w0 s (k + 1) wr := by
  obtain ⟨cs, h1, h2, h3, h4⟩ := h
  refine ⟨cs, h1, h2, fun j hj => ?_, h4⟩
  rw [h3 j hj]
  by_cases e : j = k
  · subst e
    rw [if_neg (by omega), if_pos (by omega), he]
  · by_cases hjk : j < k
    · rw [if_pos hjk, if_pos (by omega)]
    · rw [if_neg hjk, if_neg (by omega)]
theorem SmallInv.start (w : World) (s : ByteArray) : SmallInv w s 0 (Lib.bytesWorld w 5 s) := by
  refine ⟨_, Lib.bytesWorld_at_new w _ s, by simp [Lib.bytesCells], fun j hj => ?_, ?_⟩
  · rw [if_neg (by omega)]
    simp [Lib.bytesCells, Array.getElem?_append, hj]
    rfl
  · exact ⟨rfl, rfl, rfl, by rw [Lib.bytesWorld_size]; omega, fun k hk => Lib.bytesWorld_at_old w _ s k hk⟩
theorem SmallInv.done {w0 wr : World} {s : ByteArray} (h : SmallInv w0 s s.size wr) (cap : Nat) : (convert 77 9 (.slice (some ⟨w0.heap.size, 0, none⟩) s.size cap)).run Tryd.prog wr = .ok (.string (S (Url.small s.data.toList))) wr := by
  have hl : (Url.small s.data.toList).length = s.size := by simp [Url.small]
  have := run_convert_bytes_back (P := Tryd.prog) wr 77 9 5 ⟨w0.heap.size, 0, none⟩ cap (Url.small s.data.toList) Tryd.underlying77 Tryd.underlying5 Tryd.underlying9 (fun j hj => by
    have hj' : j < s.size := by omega
    have hc := h.cell j hj'
    rw [if_pos hj'] at hc
    have e : (⟨w0.heap.size, 0, none⟩ : Addr).add j = ⟨w0.heap.size, j, none⟩ := by simp [Addr.add]; omega
    rw [e, hc]
    simp [Url.small, B]
    rfl)
  rw [hl] at this
  exact this

set_option maxHeartbeats 400000 in
theorem small_any (s : ByteArray) (w : World) (hs : s.size ≤ 1073741824) :
    Calls Tryd.prog 44 #[.string s] w (Told w (.returned (.string (S (Url.small s.data.toList))))) := by
  have hcv := Lib.run_convert_string_bytes (P := Tryd.prog) w 9 77 5 s Tryd.underlying9 Tryd.underlying77 Tryd.underlying5
  have hst := SmallInv.start w s
  obtain ⟨cap, hcap⟩ : ∃ cap, cap = grownCap w s.size 0 5 := ⟨_, rfl⟩
  rw [← hcap] at hcv
  clear hcap
  generalize Lib.bytesWorld w 5 s = w1 at hcv hst
  go_enter Tryd.func44, Tryd.ntmps44
  go_wp2
  go_loopw [10] (fun i wr => ∃ k : Nat, k ≤ s.size ∧ i = .int .i64 k ∧ SmallInv w s k wr) (fun i _ => s.size - (intOf i).toNat)
  case atStart => exact ⟨0, Nat.zero_le _, rfl, hst⟩
  case round =>
    obtain ⟨k, hk, rfl, hinv⟩ := hrel
    clear hst hcv
    by_cases hlt : k < s.size
    · have hc := hinv.cell k hlt
      rw [if_neg (by omega)] at hc
      have hf := hinv.free k hlt
      have i0 : (0 : Int) ≤ (k : Int) := by omega
      have i1 : (k : Int) < (s.size : Int) := by omega
      have H1 := Lib.hid (hinv.set hlt)
      have H2 := Lib.hid (fun he => hinv.skip hlt he)
      clear hinv
      by_cases hu : 65 ≤ s[k].toNat ∧ s[k].toNat ≤ 90
      · have h1 := hu.1
        have h2 := hu.2
        have HE := Lib.hid (lower_up hu.1 hu.2)
        clear hu
        go_wp2
        go_roundw
        case rel =>
          refine ⟨k + 1, by omega, by go_num, ?_⟩
          have hv : Value.int .u8 ((s[k].toNat : Int) - 65 + 97) = B (Url.lower s[k]) := by
            unfold B
            rw [HE.out]
            congr 1
            omega
          rw [hv]
          exact H1.out
        case measure => simp [intOf]; omega
      · have HE := Lib.hid (lower_id (c := s[k]) (by omega))
        by_cases h1 : 65 ≤ s[k].toNat
        · have h2 : 90 < s[k].toNat := by omega
          clear hu
          go_wp2
          go_roundw
          case rel => exact ⟨k + 1, by omega, by go_num, H2.out HE.out⟩
          case measure => simp [intOf]; omega
        · clear hu
          go_wp2
          go_roundw
          case rel => exact ⟨k + 1, by omega, by go_num, H2.out HE.out⟩
          case measure => simp [intOf]; omega
    · obtain rfl : k = s.size := by omega
      have hd := hinv.done cap
      obtain ⟨_, _, _, _, hb⟩ := hinv
      go_wp2
      go_ret
      exact ⟨rfl, hb⟩

/-- A path or a query in one way, as the call answers it. -/
def wayRes (o : Option (List UInt8)) : Ending := .returned (.tuple #[.string (S (o.getD [])), .bool o.isSome])

set_option maxHeartbeats 400000 in
theorem inOneWay_any (s : ByteArray) (w : World) (hd : Digs w) (hs : s.size ≤ 1073741824) :
    Calls Tryd.prog 43 #[.string s] w (Told w (wayRes (Url.part s.data.toList))) := by
  go_enter Tryd.func43, Tryd.ntmps43
  go_wp2
  go_loop [8] (fun i => ∃ k : Nat, k ≤ s.size ∧ i = .int .i64 k ∧ ∀ j (hj : j < s.size), j < k → Url.okB2 s[j] = true) (fun i => s.size - (intOf i).toNat)
  case atStart => exact ⟨0, Nat.zero_le _, rfl, fun j _ hj => absurd hj (by omega)⟩
  case round =>
    obtain ⟨k, hk, rfl, hall⟩ := hrel
    have HALL := Lib.hid hall
    clear hall
    by_cases hlt : k < s.size
    · cases hm : Url.okB2 s[k]
      · have HF := Lib.hid (part_bad hlt hm)
        go_wp2_with (go_at_call 76; refine (mayStand_any _ _).mono ?_; rintro e w' ⟨rfl, rfl⟩; rw [hm])
        go_ret2
        exact ⟨by rw [HF.out]; rfl, Below.refl _ _⟩
      · go_wp2_with (go_at_call 76; refine (mayStand_any _ _).mono ?_; rintro e w' ⟨rfl, rfl⟩; rw [hm])
        go_round
        case rel =>
          refine ⟨k + 1, by omega, by go_num, fun j hj hjk => ?_⟩
          by_cases e : j = k
          · subst e; exact hm
          · exact HALL.out j hj (by omega)
        case measure => simp [intOf]; omega
    · have hp : Url.part s.data.toList = Pct.norm s.data.toList := by
        unfold Url.part
        rw [if_pos]
        rw [List.all_eq_true]
        intro x hx
        obtain ⟨j, hj, rfl⟩ := List.getElem_of_mem hx
        have hj' : j < s.size := by simpa using hj
        exact HALL.out j hj' (by omega)
      cases hn : Pct.norm s.data.toList with
      | none =>
        have HF := Lib.hid (hp.trans hn)
        clear hp
        have hc : Calls Tryd.prog 77 #[.string s] w fun e w' => e = .returned (.tuple #[.string ⟨#[]⟩, .int .i64 11]) ∧ Below w.heap.size w w' := normal_none s.data.toList w hd (by simpa using hs) hn
        clear hn
        go_wp2_with (go_at_call 77; refine hc.mono ?_; rintro e w' ⟨rfl, hb⟩)
        go_ret2
        exact ⟨by rw [HF.out]; rfl, hb⟩
      | some x =>
        have HF := Lib.hid (hp.trans hn)
        clear hp
        have hc : Calls Tryd.prog 77 #[.string s] w fun e w' => e = .returned (.tuple #[.string (S x), .int .i64 0]) ∧ Below w.heap.size w w' := normal_some s.data.toList x w hd (by simpa using hs) hn
        clear hn
        go_wp2_with (go_at_call 77; refine hc.mono ?_; rintro e w' ⟨rfl, hb⟩)
        go_ret2
        exact ⟨by rw [HF.out]; rfl, hb⟩
end Go.Proofs.YtbpeohadgplaaaaDoor
