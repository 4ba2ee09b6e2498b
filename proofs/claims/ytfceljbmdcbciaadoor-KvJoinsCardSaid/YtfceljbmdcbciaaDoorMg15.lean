/- The program's Put and Size of package frame, for any bytes, where the table of sums reads as its text lays it. The program's All of package frame, for any list of bytes whose frames would be of at most 2^24 bytes, where the table of sums reads as its text lays it. -/
import Derived.Test.YtfceljbmdcbciaaDoorMg14
namespace Go.Proofs.YtfceljbmdcbciaaDoor
set_option maxRecDepth 8000
open Go.RowKit

theorem Hs.next {w w' : World} (h : Hs w) (hb : Below w.heap.size w w') : Hs w' := fun j v hv => by
  have h1 := h j v hv
  exact (hb.cell (p := ⟨0, 0 + j, none⟩) (World.block_lt_of_cell? w _ h1)).trans h1
theorem of_anyN (A : Option Addr) (l : List UInt8) (n cap : Nat) (w : World) (hn : l.length = n) (hH : Hs w) (hl : n ≤ 9223372036854775807) (hb : BC w A l) :
    Calls Tryd.prog 92 #[.slice A n cap] w fun e w' => e = .returned (U (Cr.sum l)) ∧ w = w' := by
  subst hn
  exact of_any A l cap w hH hl hb
theorem more_anyN (s : Nat) (A : Option Addr) (l : List UInt8) (n cap : Nat) (w : World) (hn : l.length = n) (hs : s < 4294967296) (hH : Hs w) (hl : n ≤ 9223372036854775807) (hb : BC w A l) :
    Calls Tryd.prog 91 #[U s, .slice A n cap] w fun e w' => e = .returned (U (Cr.more s l)) ∧ w = w' := by
  subst hn
  exact more_any s A l cap w hs hH hl hb
theorem size_any (n : Nat) (w : World) (hn : n ≤ 1099511627776) : Calls Tryd.prog 93 #[.int .i64 (n : Int)] w fun e w' => e = .returned (.int .i64 ((n : Int) + 6)) ∧ w = w' := by
  have hw : IntKind.i64.wrap ((n : Int) + 6) = (n : Int) + 6 := IntWalk.i64_in _ (by omega)
  go_enter Tryd.func93, Tryd.ntmps93
  go_wp2_with fail
  go_ret
  exact ⟨rfl, rfl⟩

set_option maxHeartbeats 1600000 in
theorem put_any (A : Option Addr) (c n : Nat) (l : List UInt8) (w : World) (hH : Hs w) (hn : l.length = n) (hb : BCells w w.heap.size A l) (hc : n ≤ 9223372036854775807) :
    Calls Tryd.prog 69 #[.slice A n c] w (PutPost (Fr.put l) w) := by
  by_cases h0 : n = 0
  · have hP : Fr.put l = .error 1 := by unfold Fr.put; rw [if_pos (by omega)]
    rw [hP]
    subst h0
    go_enter Tryd.func69, Tryd.ntmps69
    go_wp2_with fail
    go_ret2
    exact ⟨Below.refl _ _, rfl⟩
  by_cases h4 : 4000 < n
  · have hP : Fr.put l = .error 2 := by unfold Fr.put; rw [if_neg (by omega), if_pos (by omega)]
    rw [hP]
    have e0 : ((n : Int) == 0) = false := by simp; omega
    have e1 : (4000 : Int) < (n : Int) := by omega
    go_enter Tryd.func69, Tryd.ntmps69
    go_wp2_with fail
    go_ret2
    exact ⟨Below.refl _ _, rfl⟩
  · have hP : Fr.put l = .ok (Fr.frame l) := by unfold Fr.put; rw [if_neg (by omega), if_neg (by omega)]
    rw [hP]
    have e0 : ((n : Int) == 0) = false := by simp; omega
    have e1 : ¬ (4000 : Int) < (n : Int) := by omega
    have hbytes : (.cells #[.int .u8 ((n : Int) / 256), .int .u8 ((n : Int) % 256)] 5 (0, 0) : Obj) = .cells ((Fr.be2 n).map B).toArray 5 (0, 0) := by
      have h1 : ((n : Int) / 256) = ((UInt8.ofNat (n / 256)).toNat : Int) := by rw [UInt8.toNat_ofNat']; omega
      have h2 : ((n : Int) % 256) = ((UInt8.ofNat n).toNat : Int) := by rw [UInt8.toNat_ofNat']; omega
      rw [h1, h2]
      rfl
    have HBY := Lib.hid hbytes
    have HN := Lib.hid hn
    obtain ⟨s, hs⟩ : ∃ s, s = Cr.more (Cr.sum (Fr.be2 n)) l := ⟨_, rfl⟩
    have hsl : s < 4294967296 := by rw [hs]; exact Cr.more_lt _ (Cr.sum_lt _)
    have HF : Hid (Fr.frame l = Fr.be2 n ++ (Fr.be4 s ++ l)) := Lib.hid (by unfold Fr.frame; rw [hn, hs]; unfold Cr.sum; rw [Cr.more_sum])
    obtain ⟨s0, hs0⟩ : ∃ s, s = Cr.sum (Fr.be2 n) := ⟨_, rfl⟩
    have hs0l : s0 < 4294967296 := by rw [hs0]; exact Cr.sum_lt _
    rw [← hs0] at hs
    have HS := Lib.hid hs
    have HS0 := Lib.hid hs0
    have hbytes4 : (.cells #[.int .u8 ((s : Int) / 16777216), .int .u8 ((s : Int) / 65536 % 256), .int .u8 ((s : Int) / 256 % 256), .int .u8 ((s : Int) % 256)] 5 (0, 0) : Obj) = .cells ((Fr.be4 s).map B).toArray 5 (0, 0) := by
      have h1 : ((s : Int) / 16777216) = ((UInt8.ofNat (s / 16777216)).toNat : Int) := by rw [UInt8.toNat_ofNat']; omega
      have h2 : ((s : Int) / 65536 % 256) = ((UInt8.ofNat (s / 65536)).toNat : Int) := by rw [UInt8.toNat_ofNat']; omega
      have h3 : ((s : Int) / 256 % 256) = ((UInt8.ofNat (s / 256)).toNat : Int) := by rw [UInt8.toNat_ofNat']; omega
      have h4 : ((s : Int) % 256) = ((UInt8.ofNat s).toNat : Int) := by rw [UInt8.toNat_ofNat']; omega
      rw [h1, h2, h3, h4]
      rfl
    have HBY4 := Lib.hid hbytes4
    clear hbytes hbytes4 hn hs hs0 hP
    go_enter Tryd.func69, Tryd.ntmps69
    go_upto_region 6 with (fail)
    rw [HBY.out]
    obtain ⟨w2, hw2⟩ : ∃ w2, w2 = w.alloc (.cells ((Fr.be2 n).map B).toArray 5 (0, 0)) := ⟨_, rfl⟩
    obtain ⟨g, hg⟩ : ∃ g, g = w.heap.size := ⟨_, rfl⟩
    have hrow2 : Row w.heap.size w2 (.slice (some ⟨g, 0, none⟩) 2 2) (Fr.be2 n) := by rw [hw2]; exact row_made w _ (Nat.le_refl _) _ (by simp [Fr.be2]) g 2 hg rfl
    have hb2 : Below w.heap.size w w2 := by rw [hw2]; exact (Below.refl _ _).alloc (Nat.le_refl _) _
    rw [← hw2, ← hg]
    have HG := Lib.hid hg
    clear hw2 hg
    have hH2 := hH.next hb2
    have hc2 := (row_cells hrow2).bc
    have hA2 : BC w2 A l := (hb.below hb2).bc
    have HOF := Lib.hid (of_anyN (some ⟨g, 0, none⟩) (Fr.be2 n) 2 2 w2 rfl hH2 (by omega) hc2)
    rw [← HS0.out] at HOF
    have HMO := Lib.hid (more_anyN s0 A l n c w2 HN.out hs0l hH2 hc hA2)
    rw [← HS.out] at HMO
    have HSZ := Lib.hid (size_any n w2 (by omega))
    obtain ⟨i0, hi0, hz0, hz1, hz2⟩ := info_parts Tryd.infoByte
    obtain ⟨w3, hmk, hown3, hgrow3⟩ := run_make_own (P := Tryd.prog) w2 w.heap.size 36 5 i0 _ 1 Tryd.underlying36 hi0 hz0 hz1 .i64 .i64 (n + 6) (by rw [hz2]; omega) (by unfold maxLen; omega) hb2.size
    rw [show ((n + 6 : Nat) : Int) = (n : Int) + 6 by omega] at hmk
    have hb3 : Below w2.heap.size w2 w3 := (Below.refl _ _).grown hgrow3 (Nat.le_refl _) (fun _ hq => by cases hq)
    obtain ⟨g3, hg3⟩ : ∃ g3, g3 = w2.heap.size := ⟨_, rfl⟩
    rw [← hg3] at hmk hown3
    have hrow3 : Row w.heap.size w3 (.slice (some ⟨g3, 0, none⟩) 0 (n + 6)) [] := hown3
    have HG3 := Lib.hid hg3
    have hbw3 := hb2.trans (hb3.mono hb2.size)
    have hlen3 := hbw3.size
    have hc3 : BC w3 (some ⟨g, 0, none⟩) (Fr.be2 n) := (row_cells (own_below hrow2 hb3)).bc
    obtain ⟨n2, hn2⟩ : ∃ n2 : Nat, n2 = 2 := ⟨_, rfl⟩
    have HN2 : Hid ((Fr.be2 n).length = n2) := Lib.hid (by rw [hn2]; rfl)
    rw [show Value.slice (some ⟨g, 0, none⟩) 2 2 = Value.slice (some ⟨g, 0, none⟩) n2 2 by rw [hn2]] at HOF ⊢
    clear hn2
    obtain ⟨q, hq⟩ : ∃ q, q = n + 6 := ⟨_, rfl⟩
    rw [← hq] at hmk hrow3
    have HQ := Lib.hid hq
    clear hq hg3 hown3 hgrow3 hrow2 hc2 hA2 hH2
    go_wp2_with fail
    refine HOF.out.mono ?_
    rintro _ _ ⟨rfl, rfl⟩
    go_wp2_with fail
    refine HMO.out.mono ?_
    rintro _ _ ⟨rfl, rfl⟩
    go_wp2_with fail
    refine HSZ.out.mono ?_
    rintro _ _ ⟨rfl, rfl⟩
    go_upto_region 8 with (at_builtin; refine wpList_append_bytes ?hw1 (.tmp 28) (.tmp 29) rfl w.heap.size (.slice (some ⟨g3, 0, none⟩) 0 q) (some ⟨g, 0, none⟩) 2 n2 [] (Fr.be2 n) rfl HN2.out rfl hrow3 hc3 (by simp [Fr.be2]) hlen3 ?_; rotate_right; intro v4 w4 hown4 hgrow4)
    have hb4 := hbw3.grown hgrow4 hlen3 (fun k hk => (World.ownsRow.lt hrow3 k hk).1)
    clear hmk hrow3 hc3 hgrow4 HOF HMO HSZ
    obtain ⟨o, ho⟩ : ∃ o : Obj, o = .cells #[.int .u8 ((s : Int) / 16777216), .int .u8 ((s : Int) / 65536 % 256), .int .u8 ((s : Int) / 256 % 256), .int .u8 ((s : Int) % 256)] 5 (0, 0) := ⟨_, rfl⟩
    have hba : Below w4.heap.size w4 (w4.alloc o) := (Below.refl _ _).alloc (Nat.le_refl _) _
    have hb5 := hb4.trans (hba.mono hb4.size)
    have hrow5 : Row w.heap.size (w4.alloc o) v4 ([] ++ Fr.be2 n) := own_below hown4 hba
    have hc5 : BC (w4.alloc o) (some ⟨w4.heap.size, 0, none⟩) (Fr.be4 s) := by
      rw [ho, HBY4.out]
      exact (bc_made (fr := (0, 0)) (heap_alloc_new w4 _)).bc
    have hA5 : BC (w4.alloc o) A l := (hb.below hb5).bc
    rw [ho] at hrow5 hc5 hb5
    have HN4 : Hid ((Fr.be4 s).length = 4) := Lib.hid rfl
    have hlen5 := hb5.size
    clear ho hown4 hba hA5
    go_upto_region 9 with (at_builtin; refine wpList_append_bytes ?hw2 (.tmp 31) (.tmp 43) rfl w.heap.size v4 (some ⟨w4.heap.size, 0, none⟩) 4 4 ([] ++ Fr.be2 n) (Fr.be4 s) rfl HN4.out rfl hrow5 hc5 (by simp [Fr.be2, Fr.be4]) hlen5 ?_; rotate_right; intro v6 w6 hown6 hgrow6)
    have hb6 := hb5.grown hgrow6 hlen5 (fun k hk => (World.ownsRow.lt hrow5 k hk).1)
    have hA6 : BC w6 A l := (hb.below hb6).bc
    have hlen6 := hb6.size
    clear hrow5 hc5 hgrow6 hb5 hlen5 hb4 hbw3 hb3 hb2
    go_wp2_with (at_builtin; refine wpList_append_bytes ?hw3 (.tmp 45) (.tmp 46) rfl w.heap.size v6 A c n ([] ++ Fr.be2 n ++ Fr.be4 s) l rfl HN.out rfl hown6 hA6 (by have := HN.out; simp [Fr.be2, Fr.be4]; omega) hlen6 ?_; rotate_right; intro v7 w7 hown7 hgrow7)
    have hb7 := hb6.grown hgrow7 hlen6 (fun k hk => (World.ownsRow.lt hown6 k hk).1)
    obtain ⟨A7, c7, hv7, _⟩ := hown7.form
    subst hv7
    rw [show [] ++ Fr.be2 n ++ Fr.be4 s ++ l = Fr.frame l by rw [HF.out, List.nil_append, List.append_assoc]] at hown7 ⊢
    go_ret2
    exact ⟨hb7, A7, c7, rfl, hown7⟩
end Go.Proofs.YtfceljbmdcbciaaDoor
namespace Go.Proofs.YtfceljbmdcbciaaDoor
set_option maxRecDepth 8000
open Go.RowKit

set_option maxHeartbeats 1600000 in
theorem all_any (A : Option Addr) (c n : Nat) (l : List (List UInt8)) (w : World) (hH : Hs w) (hn : l.length = n) (h : LC w w.heap.size A l) (ht : Fr.okTotal l ≤ 16777216) (hq : ∀ b ∈ l, b.length ≤ 9223372036854775807) (hl : n ≤ 9223372036854775807) :
    Calls Tryd.prog 80 #[.slice A n c] w (PutPost (Fr.all l) w) := by
  have HN := Lib.hid hn
  have HL := Lib.hid h
  have HTT := Lib.hid ht
  clear hn h
  go_enter Tryd.func80, Tryd.ntmps80
  go_wp2_with fail
  go_loopw [4, 11] (fun ov i wr => AllRel w l ov i wr) (fun _ i _ => n - (intOf i).toNat)
  case atStart => exact ⟨0, none, 0, 0, Nat.zero_le _, rfl, rfl, rfl, by rw [List.take_zero]; rfl, World.ownsRow_nil _ _ _ _, Below.refl _ _⟩
  case round =>
    obtain ⟨k, A', c', fl, hk, rfl, rfl, hfl, hok, hrow, hbe⟩ := hrel
    have HOK := Lib.hid hok
    have HFL := Lib.hid hfl
    have hnl := HN.out
    clear hok hfl
    by_cases hlt : k < n
    · have hkl : k < l.length := by omega
      obtain ⟨b, off, rfl, hbb, hc⟩ := HL.out (by omega)
      obtain ⟨Ak, ck, c0', hx0⟩ := hc k hkl
      have c0 := (hbe.cell (p := ⟨b, off + k, none⟩) hbb).trans c0'
      have hxr := (hx0.keepB hbe (Nat.le_refl _)).moreB hbe.size
      have hxl := hq l[k] (List.getElem_mem hkl)
      have HERR : Hid (∀ e, Fr.put l[k] = .error e → Fr.all l = .error e) := Lib.hid (fun e he => Fr.all_error hkl HOK.out he)
      have HSN : Hid (Fr.ok l[k] = true → (l.take (k + 1)).all Fr.ok = true) := Lib.hid (fun h => by
        rw [List.take_succ_eq_append_getElem hkl, List.all_append, HOK.out, List.all_cons, h]; rfl)
      have HFR : Hid (Fr.frames (l.take (k + 1)) = Fr.frames (l.take k) ++ Fr.frame l[k]) := Lib.hid (by
        rw [List.take_succ_eq_append_getElem hkl, Fr.frames_app, Fr.frames_cons]
        show _ ++ (_ ++ []) = _
        rw [List.append_nil])
      have HTK : Hid (Fr.ok l[k] = true → (Fr.frames (l.take k)).length + (Fr.frame l[k]).length ≤ 16777216) := Lib.hid (fun h => by
        have h1 := Fr.frames_total (l.take (k + 1))
        have h2 := Fr.okTotal_take l (k + 1) (HSN.out h)
        have h3 := HTT.out
        rw [HFR.out, List.length_append] at h1
        omega)
      obtain ⟨x, hx⟩ : ∃ x, x = l[k] := ⟨_, rfl⟩
      rw [← hx] at c0 hxr hxl HERR HSN HFR HTK
      obtain ⟨m, hm⟩ : ∃ m, m = x.length := ⟨_, rfl⟩
      rw [← hm] at c0 hxl
      have HP := Lib.hid (put_any Ak ck m x wr (hH.next hbe) hm.symm hxr hxl)
      have i0 : (0 : Int) ≤ (k : Int) := by omega
      have i1 : (k : Int) < (n : Int) := by omega
      clear hx hm hkl hc hx0 c0' hxr hnl hxl
      cases hok : Fr.ok x with
      | false =>
        obtain ⟨e, he, hp⟩ := Fr.put_bad hok
        have HA : Hid (Fr.all l = .error e) := Lib.hid (HERR.out e hp)
        rw [hp] at HP
        have e0 : ((e : Int) != 0) = true := by simp; omega
        clear hok hp he
        go_wp2_with fail
        refine HP.out.mono ?_
        rintro _ w2 ⟨hb2, rfl⟩
        go_wp2_with fail
        go_ret2
        exact ⟨hbe.trans (hb2.mono hbe.size), by rw [HA.out]; rfl⟩
      | true =>
        have HNX := Lib.hid (HSN.out hok)
        have HTK := Lib.hid (HTK.out hok)
        rw [Fr.put_ok hok] at HP
        clear hok
        go_wp2_with fail
        refine HP.out.mono ?_
        rintro _ w2 ⟨hb2, Af, cf, rfl, hrf⟩
        have hrow2 : Row w.heap.size w2 (.slice A' fl c') (Fr.frames (l.take k)) := own_below hrow hb2
        have hbcf := (row_cells hrf).bc
        have hbe2 := hbe.trans (hb2.mono hbe.size)
        obtain ⟨fx, hfx⟩ : ∃ fx, fx = Fr.frame x := ⟨_, rfl⟩
        rw [← hfx] at hbcf HFR HTK ⊢
        obtain ⟨fm, hfm⟩ : ∃ fm, fm = fx.length := ⟨_, rfl⟩
        rw [← hfm]
        have HFM := Lib.hid hfm.symm
        clear hrow hb2 hbe hrf hfx hfm
        have hH := hbe2.size
        go_wp2_with (at_builtin; refine wpList_append_bytes ?hw1 (.tmp 23) (.tmp 24) rfl w.heap.size (.slice A' fl c') Af cf fm (Fr.frames (l.take k)) fx rfl HFM.out rfl hrow2 hbcf HTK.out hH ?_; rotate_right; intro v9 w9 hown9 hgrow9)
        have hbe9 := hbe2.grown hgrow9 hH (fun k hk => (World.ownsRow.lt hrow2 k hk).1)
        obtain ⟨A9, c9, hv9, _⟩ := hown9.form
        subst hv9
        rw [← HFR.out] at hown9 ⊢
        have HROW := Lib.hid hown9
        clear hown9 hgrow9 hrow2 hbcf hbe2
        go_roundw
        case rel => exact ⟨k + 1, A9, c9, _, by have := HN.out; omega, by go_num, rfl, rfl, HNX.out, HROW.out, hbe9⟩
        case measure => simp [intOf]; omega
    · have hall2 : l.all Fr.ok = true := by
        have := HOK.out
        rwa [List.take_of_length_le (by omega)] at this
      have HA := Lib.hid (Fr.all_of_ok hall2)
      have htk : l.take k = l := List.take_of_length_le (by omega)
      have hf := HFL.out
      rw [htk] at hrow hf
      subst hf
      clear hall2 hnl
      go_wp2_with fail
      go_ret2
      exact ⟨hbe, by rw [HA.out]; exact ⟨A', c', rfl, hrow⟩⟩
end Go.Proofs.YtfceljbmdcbciaaDoor
