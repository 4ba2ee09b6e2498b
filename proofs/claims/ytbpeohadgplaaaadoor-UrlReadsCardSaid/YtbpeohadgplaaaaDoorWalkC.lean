/- What the calls Decode and Normal of package pct do, for any text of at most 2^30 bytes, where the table of digits reads as its text lays it. -/
import Derived.Test.YtbpeohadgplaaaaDoorWalkB
namespace Go.Proofs.YtbpeohadgplaaaaDoor
set_option maxRecDepth 8000
open Go.RowKit

def decRes (o : Option (List UInt8)) : Ending :=
  match o with
  | some l => .returned (.tuple #[.string (S l), .int .i64 0])
  | none => .returned (.tuple #[.string ⟨#[]⟩, .int .i64 11])

/-- What has been gone through, and what is left. -/
def ScanInv (f g : UInt8 → List UInt8) (l acc : List UInt8) (k : Nat) : Prop := (Pct.scan f g (l.drop k)).map (acc ++ ·) = Pct.scan f g l

section
variable {f g : UInt8 → List UInt8} {l acc : List UInt8} {k : Nat}
theorem ScanInv.done (h : ScanInv f g l acc k) (hk : l.length ≤ k) : Pct.scan f g l = some acc := by
  unfold ScanInv at h
  rw [List.drop_of_length_le hk, Pct.scan_nil] at h
  rw [← h]
  simp
theorem ScanInv.bad (h : ScanInv f g l acc k) (hk : k < l.length) (hc : l[k] = 37) (ht : Pct.told2 (l.drop (k + 1)) = none) : Pct.scan f g l = none := by
  unfold ScanInv at h
  rw [List.drop_eq_getElem_cons hk, hc] at h
  rw [← h]
  match hr : l.drop (k + 1), ht with
  | [], _ => rw [Pct.scan_short0]; rfl
  | [a], _ => rw [Pct.scan_short1]; rfl
  | a :: b :: r, ht => rw [Pct.scan_bad f g a b r ht]; rfl
theorem ScanInv.pct (h : ScanInv f g l acc k) (hk : k < l.length) (hc : l[k] = 37) {u : UInt8} (ht : Pct.told2 (l.drop (k + 1)) = some u) : k + 3 ≤ l.length ∧ ScanInv f g l (acc ++ f u) (k + 3) := by
  unfold ScanInv at h ⊢
  rw [List.drop_eq_getElem_cons hk, hc] at h
  match hr : l.drop (k + 1), ht with
  | [], ht => cases ht
  | [a], ht => cases ht
  | a :: b :: r, ht =>
    have hlen : (l.drop (k + 1)).length = r.length + 2 := by rw [hr]; rfl
    rw [List.length_drop] at hlen
    have hd : l.drop (k + 3) = r := by
      have : l.drop (k + 3) = (l.drop (k + 1)).drop 2 := by rw [List.drop_drop]
      rw [this, hr]
      rfl
    refine ⟨by omega, ?_⟩
    rw [← h, hr, Pct.scan_pct f g a b u r ht, hd, Option.map_map]
    congr 1
    funext x
    simp
theorem ScanInv.other (h : ScanInv f g l acc k) (hk : k < l.length) (hc : l[k] ≠ 37) : ScanInv f g l (acc ++ g l[k]) (k + 1) := by
  unfold ScanInv at h ⊢
  rw [List.drop_eq_getElem_cons hk, Pct.scan_other f g _ _ hc, Option.map_map] at h
  rw [← h]
  congr 1
  funext x
  simp
end

theorem extract_toList (s : ByteArray) (a : Nat) : (s.extract a s.size).data.toList = s.data.toList.drop a := by
  rw [ByteArray.data_extract, Array.toList_extract, List.extract_eq_take_drop, List.take_of_length_le]
  rw [List.length_drop]
  simp

theorem told_some (s : ByteArray) (k : Nat) (u : UInt8) (w : World) (hd : Digs w) (ht : Pct.told2 (s.data.toList.drop (k + 1)) = some u) :
    Calls Tryd.prog 102 #[.string (s.extract (k + 1) s.size)] w fun e w' => e = .returned (.tuple #[B u, .bool true]) ∧ w = w' :=
  (told_any _ w hd).mono fun e w' ⟨he, hw⟩ => ⟨by rw [he, extract_toList, ht]; rfl, hw⟩
theorem told_none (s : ByteArray) (k : Nat) (w : World) (hd : Digs w) (ht : Pct.told2 (s.data.toList.drop (k + 1)) = none) :
    Calls Tryd.prog 102 #[.string (s.extract (k + 1) s.size)] w fun e w' => e = .returned (.tuple #[.int .u8 0, .bool false]) ∧ w = w' :=
  (told_any _ w hd).mono fun e w' ⟨he, hw⟩ => ⟨by rw [he, extract_toList, ht]; rfl, hw⟩

theorem row_snoc {base : Nat} {w1 : World} {acc : List UInt8} {c : UInt8} {gg cap : Nat}
    (h : w1.ownsRow base 5 1 (.slice (some ⟨gg, 0, none⟩) (acc.length + 1) cap) (acc.length + 1) (acc.map B ++ [B c])) : Row base w1 (.slice (some ⟨gg, 0, none⟩) (acc.length + 1) cap) (acc ++ [c]) := by
  unfold Row
  rw [List.length_append, List.map_append]
  exact h

theorem below_snoc {base : Nat} {w wr w1 : World} {v : Value} {acc : List UInt8} {o : Obj} (hb : Below base w wr) (hbs : base ≤ wr.heap.size) (hrow : Row base wr v acc) (hg : (wr.alloc o).grownBy w1 v.ownBlock) : Below base w w1 :=
  (hb.alloc hbs _).grown hg (by simp; omega) (fun k hk => (World.ownsRow.lt hrow k hk).1)

theorem ret_dec {o : Option (List UInt8)} {l : List UInt8} (h : o = some l) : Ending.returned (.tuple #[.string ⟨l.toArray⟩, .int .i64 0]) = decRes o := by rw [h]; rfl
theorem ret_decN {o : Option (List UInt8)} (h : o = none) : Ending.returned (.tuple #[.string ⟨#[]⟩, .int .i64 11]) = decRes o := by rw [h]; rfl

set_option maxHeartbeats 800000 in
theorem decode_any (s : ByteArray) (p : Bool) (w : World) (hd : Digs w) (hs : s.size ≤ 1073741824) :
    Calls Tryd.prog 110 #[.string s, .bool p] w (Told w (decRes (Pct.dec p s.data.toList))) := by
  obtain ⟨i0, hi0, hz0, hz1, hz2⟩ := info_parts Tryd.infoByte
  have hby : i0.bytes * s.size ≤ 281474976710656 := by rw [hz2]; omega
  have h63 : s.size ≤ maxLen := by unfold maxLen; omega
  have h64 : s.size + 1 ≤ maxLen := by unfold maxLen; omega
  have h0 := hd.lt
  have hsl : s.data.toList.length = s.size := by simp
  have HSL := Lib.hid hsl
  clear hsl
  go_enter Tryd.func110, Tryd.ntmps110
  go_wp2_with (at_make; refine wpList_make_own _ rfl _ _ 77 rfl w.heap.size 5 i0 (.int .u8 0) 1 Tryd.underlying77 hi0 hz0 hz1 _ _ _ s.size rfl rfl rfl hby h63 (Nat.le_refl _) ?_; intro w1 hown1 hgrow1)
  have hb1 : Below w.heap.size w w1 := (Below.refl _ _).grown hgrow1 (Nat.le_refl _) (by simp)
  clear hgrow1
  go_loopw [6, 7] (fun v i wr => ∃ (k : Nat) (acc : List UInt8), k ≤ s.size ∧ i = .int .i64 k ∧ acc.length ≤ k ∧ ScanInv (fun u => [u]) (fun c => [Pct.plusB p c]) s.data.toList acc k ∧ Row w.heap.size wr v acc ∧ Below w.heap.size w wr) (fun _ i _ => s.size - (intOf i).toNat)
  case atStart => exact ⟨0, [], Nat.zero_le _, rfl, Nat.zero_le _, by unfold ScanInv; simp, hown1, hb1⟩
  case round =>
    obtain ⟨k, acc, hk, rfl, hal, hinv, hrow, hb⟩ := hrel
    clear hb1 hown1
    have hbs := hb.size
    have hown : wr.ownsRow w.heap.size 5 1 u6 acc.length (acc.map B) := hrow
    by_cases hlt : k < s.size
    · have HG := Lib.hid (show ∃ h : k < s.data.toList.length, s.data.toList[k] = s[k] from ⟨by simpa using hlt, rfl⟩)
      by_cases hc : s[k] = 37
      · have hc' : ((s[k].toNat : Int) == 37) = true := by rw [hc]; rfl
        have HC := Lib.hid hc
        clear hc
        cases ht : Pct.told2 (s.data.toList.drop (k + 1)) with
        | none =>
          have HT := Lib.hid ht
          clear ht
          go_wp2_with (go_at_call 102; refine (told_none s k _ (hd.below hb h0) HT.out).mono ?_; rintro e w' ⟨rfl, rfl⟩)
          go_ret2
          obtain ⟨hg, hgc⟩ := HG.out
          exact ⟨ret_decN (hinv.bad hg (hgc.trans HC.out) HT.out), hb⟩
        | some u =>
          have HT := Lib.hid ht
          clear ht
          go_wp2_with (first
            | (go_at_call 102; refine (told_some s k u _ (hd.below hb h0) HT.out).mono ?_; rintro e w' ⟨rfl, rfl⟩)
            | (at_builtin; refine wpList_append_lies _ rfl (.tmp 40) (.tmp 42) _ rfl w.heap.size 5 i0 _ 1 1 Tryd.underlying77 hi0 hz0 hz1 hz2 rfl (by omega) _ acc.length (acc.map B) rfl (hown.alloc _) ⟨wr.heap.size, 0, none⟩ 1 1 [B u] rfl rfl (World.news_of_block (cs := #[B u]) (t := 5) (fr := (0, 0)) (heap_alloc_new wr _)) (by simp [Value.oneCell']) (by omega) (by omega) (by omega) (by simp; omega) (wr.heap.size + 1) (by simp) ?_; intro gg cap w1 hown1 hgrow hat hlt1))
          obtain ⟨hg, hgc⟩ := HG.out
          have hp := hinv.pct hg (hgc.trans HC.out) HT.out
          have hp1 := hp.1
          rw [HSL.out] at hp1
          go_roundw
          case rel => exact ⟨k + 3, acc ++ [u], hp1, by go_num, by simp; omega, hp.2, row_snoc hown1, below_snoc hb hbs hrow hgrow⟩
          case measure => simp [intOf]; omega
      · have hc' : ((s[k].toNat : Int) == 37) = false := by
          have : s[k].toNat ≠ 37 := fun h => hc (Pct.u8_eq h)
          simp; omega
        have HC := Lib.hid hc
        clear hc
        by_cases hplus : p = true ∧ s[k] = 43
        · obtain ⟨rfl, hq⟩ := hplus
          have hq' : ((s[k].toNat : Int) == 43) = true := by rw [hq]; rfl
          have HQ := Lib.hid hq
          clear hq
          go_wp2_with (at_builtin; refine wpList_append_lies _ rfl (.tmp 54) (.tmp 55) _ rfl w.heap.size 5 i0 _ 1 1 Tryd.underlying77 hi0 hz0 hz1 hz2 rfl (by omega) _ acc.length (acc.map B) rfl (hown.alloc _) ⟨wr.heap.size, 0, none⟩ 1 1 [B 32] rfl rfl (World.news_of_block (cs := #[B 32]) (t := 5) (fr := (0, 0)) (heap_alloc_new wr _)) (by simp [Value.oneCell']) (by omega) (by omega) (by omega) (by simp; omega) (wr.heap.size + 1) (by simp) ?_; intro gg cap w1 hown1 hgrow hat hlt1)
          obtain ⟨hg, hgc⟩ := HG.out
          have hp := hinv.other hg (fun h => HC.out (hgc.symm.trans h))
          rw [hgc, show Pct.plusB true s[k] = 32 by rw [HQ.out]; rfl] at hp
          go_roundw
          case rel => exact ⟨k + 1, acc ++ [32], by omega, by go_num, by simp; omega, hp, row_snoc hown1, below_snoc hb hbs hrow hgrow⟩
          case measure => simp [intOf]; omega
        · have hpl : Pct.plusB p s[k] = s[k] := by
            unfold Pct.plusB
            rw [if_neg (by simpa using hplus)]
          have HPL := Lib.hid hpl
          clear hpl
          have hcases : p = false ∨ (p = true ∧ ((s[k].toNat : Int) == 43) = false) := by
            cases p with
            | false => exact .inl rfl
            | true =>
              refine .inr ⟨rfl, ?_⟩
              have : s[k].toNat ≠ 43 := fun h => hplus ⟨rfl, Pct.u8_eq h⟩
              simp; omega
          clear hplus
          rcases hcases with rfl | ⟨rfl, hq'⟩
          all_goals
            go_wp2_with (at_builtin; refine wpList_append_lies _ rfl (.tmp 19) (.tmp 23) _ rfl w.heap.size 5 i0 _ 1 1 Tryd.underlying77 hi0 hz0 hz1 hz2 rfl (by omega) _ acc.length (acc.map B) rfl (hown.alloc _) ⟨wr.heap.size, 0, none⟩ 1 1 [B s[k]] rfl rfl (World.news_of_block (cs := #[B s[k]]) (t := 5) (fr := (0, 0)) (heap_alloc_new wr _)) (by simp [Value.oneCell']) (by omega) (by omega) (by omega) (by simp; omega) (wr.heap.size + 1) (by simp) ?_; intro gg cap w1 hown1 hgrow hat hlt1)
            obtain ⟨hg, hgc⟩ := HG.out
            have hp := hinv.other hg (fun h => HC.out (hgc.symm.trans h))
            rw [hgc, HPL.out] at hp
            go_roundw
            case rel => exact ⟨k + 1, acc ++ [s[k]], by omega, by go_num, by simp; omega, hp, row_snoc hown1, below_snoc hb hbs hrow hgrow⟩
            case measure => simp [intOf]; omega
    · have hconv := row_string hrow
      go_wp2
      go_ret2
      exact ⟨ret_dec (hinv.done (by rw [HSL.out]; omega)), hb⟩

set_option maxHeartbeats 800000 in
theorem normal_any (s : ByteArray) (w : World) (hd : Digs w) (hs : s.size ≤ 1073741824) :
    Calls Tryd.prog 77 #[.string s] w (Told w (decRes (Pct.norm s.data.toList))) := by
  obtain ⟨i0, hi0, hz0, hz1, hz2⟩ := info_parts Tryd.infoByte
  have hby : i0.bytes * s.size ≤ 281474976710656 := by rw [hz2]; omega
  have h63 : s.size ≤ maxLen := by unfold maxLen; omega
  have h64 : s.size + 1 ≤ maxLen := by unfold maxLen; omega
  have h0 := hd.lt
  have hsl : s.data.toList.length = s.size := by simp
  have HSL := Lib.hid hsl
  clear hsl
  go_enter Tryd.func77, Tryd.ntmps77
  go_wp2_with (at_make; refine wpList_make_own _ rfl _ _ 77 rfl w.heap.size 5 i0 (.int .u8 0) 1 Tryd.underlying77 hi0 hz0 hz1 _ _ _ s.size rfl rfl rfl hby h63 (Nat.le_refl _) ?_; intro w1 hown1 hgrow1)
  have hb1 : Below w.heap.size w w1 := (Below.refl _ _).grown hgrow1 (Nat.le_refl _) (by simp)
  clear hgrow1
  go_loopw [4, 5] (fun v i wr => ∃ (k : Nat) (acc : List UInt8), k ≤ s.size ∧ i = .int .i64 k ∧ acc.length ≤ k ∧ ScanInv Pct.enc1 (fun c => [c]) s.data.toList acc k ∧ Row w.heap.size wr v acc ∧ Below w.heap.size w wr) (fun _ i _ => s.size - (intOf i).toNat)
  case atStart => exact ⟨0, [], Nat.zero_le _, rfl, Nat.zero_le _, by unfold ScanInv; simp, hown1, hb1⟩
  case round =>
    obtain ⟨k, acc, hk, rfl, hal, hinv, hrow, hb⟩ := hrel
    clear hb1 hown1
    have hbs := hb.size
    have hown : wr.ownsRow w.heap.size 5 1 u4 acc.length (acc.map B) := hrow
    by_cases hlt : k < s.size
    · have HG := Lib.hid (show ∃ h : k < s.data.toList.length, s.data.toList[k] = s[k] from ⟨by simpa using hlt, rfl⟩)
      by_cases hc : s[k] = 37
      · have hc' : ((s[k].toNat : Int) != 37) = false := by rw [hc]; rfl
        have HC := Lib.hid hc
        clear hc
        cases ht : Pct.told2 (s.data.toList.drop (k + 1)) with
        | none =>
          have HT := Lib.hid ht
          clear ht
          go_wp2_with (go_at_call 102; refine (told_none s k _ (hd.below hb h0) HT.out).mono ?_; rintro e w' ⟨rfl, rfl⟩)
          go_ret2
          obtain ⟨hg, hgc⟩ := HG.out
          exact ⟨ret_decN (hinv.bad hg (hgc.trans HC.out) HT.out), hb⟩
        | some u =>
          have HT := Lib.hid ht
          clear ht
          go_wp2_with (first
            | (go_at_call 102; refine (told_some s k u _ (hd.below hb h0) HT.out).mono ?_; rintro e w' ⟨rfl, rfl⟩)
            | (go_at_call 103; refine (appendEncoded_any w.heap.size _ acc u _ hrow hbs (by omega) (hd.below hb h0) h0).mono ?_; rintro e w' ⟨v', rfl, hrow', hb'⟩))
          obtain ⟨hg, hgc⟩ := HG.out
          have hp := hinv.pct hg (hgc.trans HC.out) HT.out
          have hp1 := hp.1
          rw [HSL.out] at hp1
          go_roundw
          case rel => exact ⟨k + 3, acc ++ Pct.enc1 u, hp1, by go_num, by have := (Pct.enc1_len u).2; simp; omega, hp.2, hrow', hb.trans hb'⟩
          case measure => simp [intOf]; omega
      · have hc' : ((s[k].toNat : Int) != 37) = true := by
          have : s[k].toNat ≠ 37 := fun h => hc (Pct.u8_eq h)
          simp; omega
        have HC := Lib.hid hc
        clear hc
        go_wp2_with (at_builtin; refine wpList_append_lies _ rfl (.tmp 21) (.tmp 25) _ rfl w.heap.size 5 i0 _ 1 1 Tryd.underlying77 hi0 hz0 hz1 hz2 rfl (by omega) _ acc.length (acc.map B) rfl (hown.alloc _) ⟨wr.heap.size, 0, none⟩ 1 1 [B s[k]] rfl rfl (World.news_of_block (cs := #[B s[k]]) (t := 5) (fr := (0, 0)) (heap_alloc_new wr _)) (by simp [Value.oneCell']) (by omega) (by omega) (by omega) (by simp; omega) (wr.heap.size + 1) (by simp) ?_; intro gg cap w1 hown1 hgrow hat hlt1)
        obtain ⟨hg, hgc⟩ := HG.out
        have hp := hinv.other hg (fun h => HC.out (hgc.symm.trans h))
        rw [hgc] at hp
        go_roundw
        case rel => exact ⟨k + 1, acc ++ [s[k]], by omega, by go_num, by simp; omega, hp, row_snoc hown1, below_snoc hb hbs hrow hgrow⟩
        case measure => simp [intOf]; omega
    · have hconv := row_string hrow
      go_wp2
      go_ret2
      exact ⟨ret_dec (hinv.done (by rw [HSL.out]; omega)), hb⟩
end Go.Proofs.YtbpeohadgplaaaaDoor
