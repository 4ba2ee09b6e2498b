/- What the statement on the last four bytes answers, for any slice of bytes, any sum and any four other bytes, where the table reads as its text lays it: true. -/
import Derived.Test.YtlfdgmiiijjbhaaDoorCrBurstsWalk
namespace Go.Proofs.YtlfdgmiiijjbhaaDoor
set_option maxRecDepth 8000
open Go.RowKit

theorem ofNat_xor (a b : Nat) : UInt8.ofNat (a ^^^ b) = UInt8.ofNat a ^^^ UInt8.ofNat b := by
  apply UInt8.toNat_inj.1
  rw [UInt8.toNat_xor, UInt8.toNat_ofNat', UInt8.toNat_ofNat', UInt8.toNat_ofNat', Nat.xor_mod_two_pow]
theorem four_xor (v x : Nat) : Cr.four (v ^^^ x) = [UInt8.ofNat v ^^^ UInt8.ofNat x, UInt8.ofNat (v / 256) ^^^ UInt8.ofNat (x / 256), UInt8.ofNat (v / 65536) ^^^ UInt8.ofNat (x / 65536), UInt8.ofNat (v / 16777216) ^^^ UInt8.ofNat (x / 16777216)] := by
  have e1 : (v ^^^ x) / 256 = v / 256 ^^^ x / 256 := Nat.xor_div_two_pow (n := 8)
  have e2 : (v ^^^ x) / 65536 = v / 65536 ^^^ x / 65536 := Nat.xor_div_two_pow (n := 16)
  have e3 : (v ^^^ x) / 16777216 = v / 16777216 ^^^ x / 16777216 := Nat.xor_div_two_pow (n := 24)
  unfold Cr.four
  rw [e1, e2, e3, ofNat_xor, ofNat_xor, ofNat_xor, ofNat_xor]
theorem xor_u8 (a b : UInt8) : bits .xor .u8 (a.toNat : Int) (b.toNat : Int) = ((a ^^^ b).toNat : Int) := by
  rw [UInt8.toNat_xor]; exact u8_xor_nat _ _ (Cr.u8_lt _) (Cr.u8_lt _)
theorem last_to (A : Option Addr) (l : List UInt8) (n cap want v : Nat) (w : World) (hn : l.length = n) (hv : Cr.lastW l want = v) (hH : Hs w) (hl : n ≤ 9223372036854775807) (hb : BC w A l) (hw : want < 4294967296) :
    Calls Tryd.prog 15 #[.slice A n cap, U want] w (LastPost w (Cr.four v)) := by
  subst hn hv
  exact last_any A l cap want w hH hl hb hw

set_option maxHeartbeats 2000000 in
theorem crcLast_in (A : Option Addr) (c0 : Nat) (l : List UInt8) (want x : Nat) (w : World) (hH : Hs w) (ha : BCells w w.heap.size A l) (n : Nat) (hn : l.length = n) (hla : n ≤ 300) (hw : want < 4294967296) (hx : x < 4294967296) :
    Calls Tryd.prog 7 #[.slice A n c0, U want, U x] w (AwakePost w) := by
  have hp := hH.pos
  obtain ⟨v, hv⟩ : ∃ v, Cr.lastW l want = v := ⟨_, rfl⟩
  obtain ⟨s2, hs2⟩ : ∃ s, Cr.sum (l ++ Cr.four (v ^^^ x)) = s := ⟨_, rfl⟩
  have hs1 : Cr.sum (l ++ Cr.four v) = want := by
    have := Cr.sum_last l hw (x := 0) (by decide)
    rw [Cr.sts_zero, Nat.xor_zero, Nat.xor_zero, hv] at this
    exact this
  have hd : (((s2 : Int) == (want : Int)) == ((x : Int) == 0)) = true := by
    have := Cr.sum_last l hw hx
    rw [hv, hs2] at this
    by_cases h0 : x = 0
    · subst h0
      rw [Cr.sts_zero, Nat.xor_zero] at this
      subst this
      simp
    · have h1 : s2 ≠ want := fun he => h0 (Cr.last_only hx (by rw [← this, he]))
      have a1 : ((s2 : Int) == (want : Int)) = false := by simpa using (by omega : ¬ ((s2 : Int) = (want : Int)))
      have a2 : ((x : Int) == 0) = false := by simpa using h0
      rw [a1, a2]
      rfl
  have HV := Lib.hid hv
  have HS1 := Lib.hid hs1
  have HN := Lib.hid hn
  have h4 := to_u8 x
  have h5 : IntKind.u8.wrap ((x : Int) / 256) = ((UInt8.ofNat (x / 256)).toNat : Int) := to_u8 (x / 256)
  have h6 : IntKind.u8.wrap ((x : Int) / 65536) = ((UInt8.ofNat (x / 65536)).toNat : Int) := to_u8 (x / 65536)
  have h7 : IntKind.u8.wrap ((x : Int) / 16777216) = ((UInt8.ofNat (x / 16777216)).toNat : Int) := to_u8 (x / 16777216)
  have HS2 : Hid (∀ a0 a1 a2 a3 b0 b1 b2 b3 : UInt8, a0 = UInt8.ofNat v → a1 = UInt8.ofNat (v / 256) → a2 = UInt8.ofNat (v / 65536) → a3 = UInt8.ofNat (v / 16777216) →
      b0 = UInt8.ofNat x → b1 = UInt8.ofNat (x / 256) → b2 = UInt8.ofNat (x / 65536) → b3 = UInt8.ofNat (x / 16777216) → Cr.sum (l ++ [a0 ^^^ b0, a1 ^^^ b1, a2 ^^^ b2, a3 ^^^ b3]) = s2) := Lib.hid (by
    rintro a0 a1 a2 a3 b0 b1 b2 b3 rfl rfl rfl rfl rfl rfl rfl rfl
    rw [← four_xor]
    exact hs2)
  obtain ⟨a0, ea0⟩ : ∃ c, c = UInt8.ofNat v := ⟨_, rfl⟩
  obtain ⟨a1, ea1⟩ : ∃ c, c = UInt8.ofNat (v / 256) := ⟨_, rfl⟩
  obtain ⟨a2, ea2⟩ : ∃ c, c = UInt8.ofNat (v / 65536) := ⟨_, rfl⟩
  obtain ⟨a3, ea3⟩ : ∃ c, c = UInt8.ofNat (v / 16777216) := ⟨_, rfl⟩
  obtain ⟨b0, eb0⟩ : ∃ c, c = UInt8.ofNat x := ⟨_, rfl⟩
  obtain ⟨b1, eb1⟩ : ∃ c, c = UInt8.ofNat (x / 256) := ⟨_, rfl⟩
  obtain ⟨b2, eb2⟩ : ∃ c, c = UInt8.ofNat (x / 65536) := ⟨_, rfl⟩
  obtain ⟨b3, eb3⟩ : ∃ c, c = UInt8.ofNat (x / 16777216) := ⟨_, rfl⟩
  have HT : Hid (Cr.sum (l ++ [a0 ^^^ b0, a1 ^^^ b1, a2 ^^^ b2, a3 ^^^ b3]) = s2) := Lib.hid (HS2.out _ _ _ _ _ _ _ _ ea0 ea1 ea2 ea3 eb0 eb1 eb2 eb3)
  have HF : Hid (Cr.four v = [a0, a1, a2, a3]) := Lib.hid (by rw [ea0, ea1, ea2, ea3]; rfl)
  rw [← eb0] at h4
  rw [← eb1] at h5
  rw [← eb2] at h6
  rw [← eb3] at h7
  have x0 := xor_u8 a0 b0
  have x1 := xor_u8 a1 b1
  have x2 := xor_u8 a2 b2
  have x3 := xor_u8 a3 b3
  obtain ⟨y0, e0⟩ : ∃ c, a0 ^^^ b0 = c := ⟨_, rfl⟩
  obtain ⟨y1, e1⟩ : ∃ c, a1 ^^^ b1 = c := ⟨_, rfl⟩
  obtain ⟨y2, e2⟩ : ∃ c, a2 ^^^ b2 = c := ⟨_, rfl⟩
  obtain ⟨y3, e3⟩ : ∃ c, a3 ^^^ b3 = c := ⟨_, rfl⟩
  have HT' : Hid (Cr.sum (l ++ [y0, y1, y2, y3]) = s2) := Lib.hid (by rw [← e0, ← e1, ← e2, ← e3]; exact HT.out)
  rw [e0] at x0
  rw [e1] at x1
  rw [e2] at x2
  rw [e3] at x3
  have hsF : Hid (Cr.sum (l ++ [a0, a1, a2, a3]) = want) := Lib.hid (by rw [← HF.out]; exact hs1)
  have d1 : decide (300 < (n : Int)) = false := by simpa using (by omega : (n : Int) ≤ 300)
  clear hn hv hs2 hs1 HS2 HT HS1 ea0 ea1 ea2 ea3 eb0 eb1 eb2 eb3 e0 e1 e2 e3
  go_enter Tryd.func7, Tryd.ntmps7
  go_wp2_with fail
  refine (awake_any w hH).mono ?_
  rintro e w1 ⟨rfl, hb1⟩
  go_wp2_with fail
  refine (last_to A l n c0 want v w1 HN.out HV.out (hH.below hb1 hp) (by omega) (ha.keep hb1) hw).mono ?_
  rintro e w2 ⟨rfl, hw2⟩
  rw [HF.out] at hw2
  have hb2 : Below w.heap.size w w2 := by rw [hw2]; exact hb1.alloc hb1.size _
  obtain ⟨g, hg⟩ : ∃ g, g = w1.heap.size := ⟨_, rfl⟩
  have hz2 : w2.heap.size = g + 1 := by rw [hw2, hg]; simp
  have k0 : w2.cell? ⟨g, 0, none⟩ = some (B a0) := by rw [hw2, hg, World.cell?_alloc_mark]; rfl
  have k1 : w2.cell? ⟨g, 1, none⟩ = some (B a1) := by rw [hw2, hg, World.cell?_alloc_mark]; rfl
  have k2 : w2.cell? ⟨g, 2, none⟩ = some (B a2) := by rw [hw2, hg, World.cell?_alloc_mark]; rfl
  have k3 : w2.cell? ⟨g, 3, none⟩ = some (B a3) := by rw [hw2, hg, World.cell?_alloc_mark]; rfl
  have hbc2 : BC w2 (some ⟨g, 0, none⟩) [a0, a1, a2, a3] := by rw [hw2]; exact bc_new _ _ _ _ _ _ hg rfl
  rw [← hg]
  have HG := Lib.hid hg
  have HZ2 := Lib.hid hz2
  clear hw2 hg hb1 hz2
  go_wp2
  go_region
  obtain ⟨w3, hw3⟩ : ∃ w3, w3 = (w2.alloc (Obj.cells #[Value.int IntKind.u8 (y0.toNat : Int), Value.int IntKind.u8 (y1.toNat : Int), Value.int IntKind.u8 (y2.toNat : Int), Value.int IntKind.u8 (y3.toNat : Int)] 5)).drew := ⟨_, rfl⟩
  rw [← hw3]
  obtain ⟨g2, hg2⟩ : ∃ g2, g2 = w2.heap.size := ⟨_, rfl⟩
  rw [← hg2]
  have hb3 : Below w.heap.size w w3 := by rw [hw3]; exact (hb2.alloc hb2.size _).drew
  have hb23 : Below w2.heap.size w2 w3 := by rw [hw3]; exact ((Below.refl _ _).alloc (Nat.le_refl _) _).drew
  have hbY : BC w3 (some ⟨g2, 0, none⟩) [y0, y1, y2, y3] := by rw [hw3]; exact bc_new w2 [y0, y1, y2, y3] _ 5 _ _ hg2 rfl
  have hbA : BC w3 (some ⟨g, 0, none⟩) [a0, a1, a2, a3] := hbc2.below hb23 (fun ad he _ => by cases he; have := HZ2.out; show g < w2.heap.size; omega)
  have hl3 : w2.heap.size + 1 = w3.heap.size := by rw [hw3]; simp
  have hgl3 : g < w3.heap.size := by have := HZ2.out; omega
  have hg2l3 : g2 < w3.heap.size := by omega
  have HG2 := Lib.hid hg2
  clear k0 k1 k2 k3 hbc2 hb23 hw3 hg2 hl3 hb2 x0 x1 x2 x3 h4 h5 h6 h7
  have hH3 := hH.below hb3 hp
  have hown0 := row_none w3 w3.heap.size (Nat.le_refl _) w3.heap.size rfl
  have hbb : Below w3.heap.size w3 (w3.alloc (.cells #[] 5)) := (Below.refl _ _).alloc (Nat.le_refl _) _
  have hlB : BCells w3 w3.heap.size A l := fun hn0 => by
    obtain ⟨b, off, e1, e2, e3⟩ := ha.below hb3 hn0
    exact ⟨b, off, e1, Nat.lt_of_lt_of_le e2 hb3.size, e3⟩
  have hA4 := hlB.keep hbb
  have tok1 : True := trivial
  have tok2 : True := trivial
  go_wp2_with (first
    | (at_builtin; have _t := tok1; refine wpList_append_bytes ?hw1 (.tmp 51) (.tmp 52) rfl w3.heap.size (.slice (some ⟨w3.heap.size, 0, none⟩) 0 0) A c0 n [] l rfl HN.out rfl hown0 hA4 (by have := HN.out; simp; omega) (by simp) ?_; rotate_right; intro v5 w5 hown5 hgrow5; have hb5 : Below w3.heap.size w3 w5 := hbb.grown hgrow5 (by simp) (fun k hk => (World.ownsRow.lt hown0 k hk).1); clear tok1 hgrow5; have hA5 : BC w5 (some ⟨g, 0, none⟩) [a0, a1, a2, a3] := hbA.below hb5 (fun ad he _ => by cases he; exact hgl3))
    | (at_builtin; have _t := tok2; have _h := hown5; refine wpList_append_bytes ?hw2 (.tmp 53) (.tmp 54) rfl w3.heap.size v5 (some ⟨g, 0, none⟩) 4 4 ([] ++ l) [a0, a1, a2, a3] rfl rfl rfl hown5 hA5 (by have := HN.out; simp; omega) hb5.size ?_; rotate_right; intro v6 w6 hown6 hgrow6; have hb6 : Below w3.heap.size w3 w6 := hb5.grown hgrow6 hb5.size (fun k hk => (World.ownsRow.lt hown5 k hk).1); clear tok2 hgrow6))
  obtain ⟨A6, c6, hv6, hA6, _⟩ := hown6.form
  subst hv6
  obtain ⟨z, hz⟩ : ∃ z, [] ++ l ++ [a0, a1, a2, a3] = z := ⟨_, rfl⟩
  rw [hz] at hA6 hown6 ⊢
  have HZ : Hid (Cr.sum z = want) := Lib.hid (by rw [← hz, List.nil_append]; exact hsF.out)
  obtain ⟨k, hk⟩ : ∃ k, z.length = k := ⟨_, rfl⟩
  have hkl : k ≤ 304 := by
    have := HN.out
    rw [← hk, ← hz]
    simp
    omega
  rw [hk] at hown6 ⊢
  have HK := Lib.hid hk
  clear hk hz hown6 hown5 hA5 hA4 hb5 hbb hown0
  refine (of_ex z k c6 want A6 w6 (hH3.below hb6 hH3.pos) HK.out (by omega) hA6 HZ.out).mono ?_
  rintro e w' ⟨rfl, rfl⟩
  have hb7 : Below w.heap.size w w6 := hb3.trans (hb6.mono hb3.size)
  have hH6 := hH.below hb7 hp
  have hl6 : w3.heap.size ≤ w6.heap.size := hb6.size
  have hbY6 : BC w6 (some ⟨g2, 0, none⟩) [y0, y1, y2, y3] := hbY.below hb6 (fun ad he _ => by cases he; exact hg2l3)
  have hg2l6 : g2 < w6.heap.size := by omega
  have hown0 := row_none w6 w6.heap.size (Nat.le_refl _) w6.heap.size rfl
  have hbb : Below w6.heap.size w6 (w6.alloc (.cells #[] 5)) := (Below.refl _ _).alloc (Nat.le_refl _) _
  have hlB6 : BCells w6 w6.heap.size A l := fun hn0 => by
    obtain ⟨b, off, e1, e2, e3⟩ := ha.below hb7 hn0
    exact ⟨b, off, e1, Nat.lt_of_lt_of_le e2 hb7.size, e3⟩
  have hA4 := hlB6.keep hbb
  have tok1 : True := trivial
  have tok2 : True := trivial
  clear hA6 HZ hb6 hb3 hbA hlB hlB6 hH3 hbY hl6
  go_wp2_with (first
    | (at_builtin; have _t := tok1; refine wpList_append_bytes ?hw3 (.tmp 57) (.tmp 58) rfl w6.heap.size (.slice (some ⟨w6.heap.size, 0, none⟩) 0 0) A c0 n [] l rfl HN.out rfl hown0 hA4 (by have := HN.out; simp; omega) (by simp) ?_; rotate_right; intro v5 w5 hown5 hgrow5; have hb5 : Below w6.heap.size w6 w5 := hbb.grown hgrow5 (by simp) (fun k hk => (World.ownsRow.lt hown0 k hk).1); clear tok1 hgrow5; have hA5 : BC w5 (some ⟨g2, 0, none⟩) [y0, y1, y2, y3] := hbY6.below hb5 (fun ad he _ => by cases he; exact hg2l6))
    | (at_builtin; have _t := tok2; have _h := hown5; refine wpList_append_bytes ?hw4 (.tmp 59) (.tmp 60) rfl w6.heap.size v5 (some ⟨g2, 0, none⟩) 4 4 ([] ++ l) [y0, y1, y2, y3] rfl rfl rfl hown5 hA5 (by have := HN.out; simp; omega) hb5.size ?_; rotate_right; intro v6 w8 hown6 hgrow6; have hb8 : Below w6.heap.size w6 w8 := hb5.grown hgrow6 hb5.size (fun k hk => (World.ownsRow.lt hown5 k hk).1); clear tok2 hgrow6))
  obtain ⟨A8, c8, hv8, hA8, _⟩ := hown6.form
  subst hv8
  obtain ⟨z, hz⟩ : ∃ z, [] ++ l ++ [y0, y1, y2, y3] = z := ⟨_, rfl⟩
  rw [hz] at hA8 hown6 ⊢
  have HZ : Hid (Cr.sum z = s2) := Lib.hid (by rw [← hz, List.nil_append]; exact HT'.out)
  obtain ⟨k', hk'⟩ : ∃ k, z.length = k := ⟨_, rfl⟩
  have hkl' : k' ≤ 304 := by
    have := HN.out
    rw [← hk', ← hz]
    simp
    omega
  rw [hk'] at hown6 ⊢
  have HK' := Lib.hid hk'
  clear hk' hz hown6 hown5 hA5 hA4 hb5 hbb hown0
  refine (of_ex z k' c8 s2 A8 w8 (hH6.below hb8 hH6.pos) HK'.out (by omega) hA8 HZ.out).mono ?_
  rintro e w' ⟨rfl, rfl⟩
  go_wp2
  go_ret
  exact ⟨rfl, hb7.trans (hb8.mono hb7.size)⟩

set_option maxHeartbeats 1000000 in
theorem crcLast_out (A : Option Addr) (c0 n : Nat) (want x : Nat) (w : World) (hH : Hs w) (h : 300 < n) :
    Calls Tryd.prog 7 #[.slice A n c0, U want, U x] w (AwakePost w) := by
  have d1 : decide (300 < (n : Int)) = true := by simpa using (by omega : (300 : Int) < (n : Int))
  go_enter Tryd.func7, Tryd.ntmps7
  go_wp2_with fail
  refine (awake_any w hH).mono ?_
  rintro e w1 ⟨rfl, hb1⟩
  go_wp2
  go_ret
  exact ⟨rfl, hb1⟩

theorem crcLast_any (A : Option Addr) (c0 : Nat) (l : List UInt8) (q : Int) (hq : (Lit.int .u32 q).wf = true) (x : Int) (hx : (Lit.int .u32 x).wf = true) (w : World) (hH : Hs w) (ha : BCells w w.heap.size A l) :
    Calls Tryd.prog 7 #[.slice A l.length c0, .int .u32 q, .int .u32 x] w (AwakePost w) := by
  have e1 : IntKind.u32.min = 0 := by decide
  have e2 : IntKind.u32.max = 4294967295 := by decide
  simp [Lit.wf] at hq hx
  obtain ⟨q', rfl⟩ := Int.eq_ofNat_of_zero_le (show 0 ≤ q by omega)
  obtain ⟨x', rfl⟩ := Int.eq_ofNat_of_zero_le (show 0 ≤ x by omega)
  by_cases h : l.length ≤ 300
  · exact crcLast_in A c0 l q' x' w hH ha _ rfl h (by omega) (by omega)
  · exact crcLast_out A c0 _ q' x' w hH (by omega)
end Go.Proofs.YtlfdgmiiijjbhaaDoor
