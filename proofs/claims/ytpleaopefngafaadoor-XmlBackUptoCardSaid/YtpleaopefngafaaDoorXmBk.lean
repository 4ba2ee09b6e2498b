/- What the statement on what is written, and read again, answers: true, for any element whose text has at most 6291456 bytes. -/
import Derived.Test.YtpleaopefngafaaDoorXmAk
import Derived.Test.YtpleaopefngafaaDoorXmV
namespace Go.Proofs.YtpleaopefngafaaDoor
set_option maxRecDepth 8000
open Go.RowKit

theorem few_any (n : Xm.N) (v : Value) (w : World) (ht : Tr w w.heap.size n v) (hL : All (Lim 1099511627776) n) :
    Calls Tryd.prog 10 #[v] w fun e w' => e = .returned (.bool (Xm.few n 12 250).isSome) ∧ Below w.heap.size w w' := by
  obtain ⟨A, ca, K, ck, hv, _, _⟩ := ht.form
  subst hv
  have hL2 : All (Lim 9223372036854775807) n := All.mono (fun n h => Lim.mono (by omega) n h) n hL
  have hT : ∀ w', Below w.heap.size w w' → Tr w' w'.heap.size n (nV n.name A n.attrs.length ca n.text K n.kids.length ck) := fun w' hb => ht.next hb
  have hF : ∀ w', Below w.heap.size w w' → Calls Tryd.prog 17 #[nV n.name A n.attrs.length ca n.text K n.kids.length ck, .int .i64 250, .int .i64 12] w' fun e w'' => e = .returned (.int .i64 (leftI (Xm.few n 12 250))) ∧ Below w.heap.size w w'' := fun w' hb => by
    refine (refFew_any _ n (Nat.le_refl _) 12 250 _ w' (hT w' hb) hL2 (by omega) (by omega)).mono ?_
    rintro e w'' ⟨rfl, hb2⟩
    exact ⟨rfl, hb.trans (hb2.mono hb.size)⟩
  have hfin := leftI_ge (Xm.few n 12 250)
  obtain ⟨lf, hlf⟩ : ∃ lf, lf = leftI (Xm.few n 12 250) := ⟨_, rfl⟩
  obtain ⟨bo, hbo⟩ : ∃ bo, bo = (Xm.few n 12 250).isSome := ⟨_, rfl⟩
  rw [← hlf, ← hbo] at hfin
  rw [← hlf] at hF
  rw [← hbo]
  clear hlf hbo
  unfold nV at hF ⊢
  have HF := Lib.hid hF
  clear hF hT ht
  go_enter Tryd.func10, Tryd.ntmps10
  go_wp2_with fail
  refine (HF.out _ ((Below.refl _ _).alloc (Nat.le_refl _) _)).mono ?_
  rintro e w1 ⟨rfl, hb⟩
  go_wp2_with fail
  go_ret
  exact ⟨rfl, hb⟩
theorem zero_tr (w : World) (bd : Nat) : Tr w bd Xm.zero (.agg #[.string ⟨#[]⟩, .slice none 0 0, .string ⟨#[]⟩, .slice none 0 0]) := by
  unfold Xm.zero Tr
  exact ⟨none, 0, none, 0, rfl, fun h => absurd h (by simp), fun h => absurd h (by simp)⟩
theorem zero_lim : All (Lim 1099511627776) Xm.zero := by
  unfold Xm.zero All AllL Lim
  exact ⟨⟨by simp [Xm.N.attrs], by simp [Xm.N.kids], by simp [Xm.N.name], by simp [Xm.N.text], fun p hp => by cases hp⟩, trivial⟩

/-- What is told of an element that is read. -/
theorem read_some {x : Xm.N} {e : Ending} {w' : World} (h : ReadPost (some x) e w') :
    ∃ q0 A na ca q2 K nk ck, e = .returned (.tuple #[.agg #[.string q0, .slice A na ca, .string q2, .slice K nk ck], .int .i64 0]) ∧ Tr w' w'.heap.size x (.agg #[.string q0, .slice A na ca, .string q2, .slice K nk ck]) := by
  obtain ⟨v, rfl, ht⟩ := h
  obtain ⟨A, ca, K, ck, hv, _⟩ := ht.form
  subst hv
  exact ⟨_, _, _, _, _, _, _, _, rfl, ht⟩

set_option maxHeartbeats 3200000 in
theorem xmlBack_any (n : Xm.N) (sn st : ByteArray) (A K : Option Addr) (na ca nk ck : Nat) (s : List UInt8) (w : World) (hE : EnvX w) (ht : Tr w w.heap.size n (.agg #[.string sn, .slice A na ca, .string st, .slice K nk ck])) (hl : (Xm.wr n).length ≤ 6291456) (hs : s.length ≤ 9223372036854775807) :
    Calls Tryd.prog 4 #[.agg #[.string sn, .slice A na ca, .string st, .slice K nk ck], .string (S s)] w fun e w' => e = .returned (.bool true) ∧ Below w.heap.size w w' := by
  have hlim : All (Lim 1099511627776) n := limits (by omega)
  obtain ⟨w0, hw0⟩ : ∃ w0, w0 = w.alloc (.cells #[.string sn, .slice A na ca, .string st, .slice K nk ck] 26) := ⟨_, rfl⟩
  obtain ⟨gB, hgB⟩ : ∃ g, g = w.heap.size := ⟨_, rfl⟩
  have hb0 : Below w.heap.size w w0 := by rw [hw0]; exact (Below.refl _ _).alloc (Nat.le_refl _) _
  have hBX0 : BN w0 gB (.string sn) (.slice A na ca) (.string st) (.slice K nk ck) := by rw [hw0, hgB]; exact heap_alloc_new w _
  have HW0 := Lib.hid hw0
  have HGB := Lib.hid hgB
  have HT0 := Lib.hid (ht.next hb0)
  have HE0 := Lib.hid (hE.next hb0)
  have HBX0 := Lib.hid hBX0
  have HB0 := Lib.hid hb0
  have HLIM := Lib.hid hlim
  have HLEN := Lib.hid hl
  obtain ⟨sl, hsl⟩ : ∃ sl, sl = s.length := ⟨_, rfl⟩
  have hsz : (S s).size = sl := by rw [hsl]; rfl
  rw [← hsl] at hs
  have HSL := Lib.hid hsl
  obtain ⟨sb, hsb⟩ : ∃ sb, sb = S s := ⟨_, rfl⟩
  rw [← hsb] at hsz ⊢
  have HSB := Lib.hid hsb
  clear hw0 hgB hb0 hBX0 hlim hl hsl hsb ht hE
  go_enter Tryd.func4, Tryd.ntmps4
  go_wp2_with fail
  rw [← HW0.out, ← HGB.out]
  refine (awake_any w0 HE0.out).mono ?_
  rintro e w1 ⟨rfl, hb1⟩
  have HB1 := Lib.hid (HB0.out.trans (hb1.mono HB0.out.size))
  have HT1 := Lib.hid (HT0.out.next hb1)
  have HE1 := Lib.hid (HE0.out.next hb1)
  have HBX1 := Lib.hid (HBX0.out.next hb1)
  clear hb1 HB0 HT0 HE0 HBX0 HW0 HGB
  have c0 := HBX1.out.c0
  have c1 := HBX1.out.c1
  have c2 := HBX1.out.c2
  have c3 := HBX1.out.c3
  go_wp2_with fail
  have hFew := few_any n _ w1 HT1.out HLIM.out
  obtain ⟨bf, hbf⟩ : ∃ bf, bf = (Xm.few n 12 250).isSome := ⟨_, rfl⟩
  rw [← hbf] at hFew
  clear hbf
  refine hFew.mono ?_
  rintro e w2 ⟨rfl, hb2⟩
  have HB2 := Lib.hid (HB1.out.trans (hb2.mono HB1.out.size))
  have HT2 := Lib.hid (HT1.out.next hb2)
  have HE2 := Lib.hid (HE1.out.next hb2)
  have HBX2 := Lib.hid (HBX1.out.next hb2)
  clear hb2 HB1 HT1 HE1 HBX1 hFew c0 c1 c2 c3
  cases bf with
  | false =>
    go_wp2_with fail
    go_ret
    exact ⟨rfl, HB2.out⟩
  | true =>
  by_cases h500 : 500 < sl
  · have h1 : (500 : Int) < (sl : Int) := by omega
    go_wp2_with fail
    go_ret
    exact ⟨rfl, HB2.out⟩
  have h1 : ¬ (500 : Int) < (sl : Int) := by omega
  have c0 := HBX2.out.c0
  have c1 := HBX2.out.c1
  have c2 := HBX2.out.c2
  have c3 := HBX2.out.c3
  have hRt := right_any n _ w2 HT2.out HLIM.out
  obtain ⟨br, hbr⟩ : ∃ br, br = Xm.right n := ⟨_, rfl⟩
  rw [← hbr] at hRt
  have HBRR := Lib.hid hbr
  clear hbr
  go_wp2_with fail
  refine hRt.mono ?_
  rintro e w3 ⟨rfl, hb3⟩
  have HB3 := Lib.hid (HB2.out.trans (hb3.mono HB2.out.size))
  have HT3 := Lib.hid (HT2.out.next hb3)
  have HE3 := Lib.hid (HE2.out.next hb3)
  have HBX3 := Lib.hid (HBX2.out.next hb3)
  clear hb3 HB2 HT2 HE2 HBX2 hRt c0 c1 c2 c3
  have c0 := HBX3.out.c0
  have c1 := HBX3.out.c1
  have c2 := HBX3.out.c2
  have c3 := HBX3.out.c3
  have hWr := writeX_any n _ w3 HE3.out HT3.out HLIM.out (by have := HLEN.out; omega)
  have hwv : Xm.write n = if br then some (Xm.wr n) else none := by rw [HBRR.out]; rfl
  rw [hwv] at hWr
  clear hwv
  obtain ⟨tx, htx⟩ : ∃ tx, tx = Xm.wr n := ⟨_, rfl⟩
  rw [← htx] at hWr
  have HTX := Lib.hid htx
  clear htx
  have HRN : Hid (br = true → Xm.read tx = some n) := Lib.hid (fun h => (Xm.read_is _ _).2 ⟨HBRR.out.symm.trans h, HTX.out.symm⟩)
  have HTL : Hid (tx.length ≤ 6291456) := Lib.hid (by rw [HTX.out]; exact HLEN.out)
  obtain ⟨tb, htb⟩ : ∃ tb, tb = S tx := ⟨_, rfl⟩
  have HTB := Lib.hid htb
  cases br with
  | false =>
    rw [if_neg (by decide)] at hWr
    unfold toldW at hWr
    dsimp only at hWr
    clear htb
    go_wp2_with fail
    refine hWr.mono ?_
    rintro e w4 ⟨rfl, hb4⟩
    have HB_w4 := Lib.hid (HB3.out.trans (hb4.mono HB3.out.size))
    have HE_w4 := Lib.hid (HE3.out.next hb4)
    clear hb4 hWr c0 c1 c2 c3 HTB HRN HTL
    go_wp2_with fail
    have HSM : Hid (∀ w' : World, Calls Tryd.prog 9 #[.agg #[.string ⟨#[]⟩, .slice none 0 0, .string ⟨#[]⟩, .slice none 0 0], .agg #[.string ⟨#[]⟩, .slice none 0 0, .string ⟨#[]⟩, .slice none 0 0]] w' fun e w'' => e = .returned (.bool true) ∧ Below w'.heap.size w' w'') := Lib.hid (fun w' => refSame_any _ Xm.zero (Nat.le_refl _) _ _ w' (zero_tr _ _) (zero_tr _ _) zero_lim)
    have hRd := read_any s w4 HE_w4.out (by rw [← HSL.out]; omega)
    rw [← HSB.out] at hRd
    cases hx : Xm.read s with
    | none =>
      rw [hx] at hRd
      clear hx
      refine hRd.mono ?_
      rintro e w15 ⟨hp, hb15⟩
      have hpe : e = .returned (.tuple #[.agg #[.string ⟨#[]⟩, .slice none 0 0, .string ⟨#[]⟩, .slice none 0 0], .int .i64 10]) := hp
      subst hpe
      have HB15 := Lib.hid (HB_w4.out.trans (hb15.mono HB_w4.out.size))
      clear hp hb15 hRd
      go_wp2_with fail
      refine (HSM.out _).mono ?_
      rintro e w16 ⟨rfl, hb16⟩
      have HB16 := Lib.hid ((HB15.out.alloc HB15.out.size _).trans (hb16.mono (by have := HB15.out.size; simp; omega)))
      clear hb16
      go_wp2_with fail
      go_ret
      exact ⟨rfl, HB16.out⟩
    | some x =>
      rw [hx] at hRd
      obtain ⟨hxr, hxw⟩ := (Xm.read_is _ _).1 hx
      have HXR := Lib.hid hxr
      have HXW := Lib.hid hxw
      clear hx hxr hxw
      refine hRd.mono ?_
      rintro e w15 ⟨hp, hb15⟩
      obtain ⟨x0, xA, xna, xca, x2, xK, xnk, xck, rfl, hxt⟩ := read_some hp
      have HB15 := Lib.hid (HB_w4.out.trans (hb15.mono HB_w4.out.size))
      obtain ⟨w16, hw16⟩ : ∃ w16, w16 = w15.alloc (.cells #[.string x0, .slice xA xna xca, .string x2, .slice xK xnk xck] 26) := ⟨_, rfl⟩
      obtain ⟨gX, hgX⟩ : ∃ g, g = w15.heap.size := ⟨_, rfl⟩
      have hb16 : Below w15.heap.size w15 w16 := by rw [hw16]; exact (Below.refl _ _).alloc (Nat.le_refl _) _
      have hX16 : BN w16 gX (.string x0) (.slice xA xna xca) (.string x2) (.slice xK xnk xck) := by rw [hw16, hgX]; exact heap_alloc_new w15 _
      have hWr2 := writeX_any x _ w16 ((HE_w4.out.next hb15).next hb16) (hxt.next hb16) (limits (by rw [HXW.out, ← HSL.out]; omega)) (by rw [HXW.out, ← HSL.out]; omega)
      have hwv : Xm.write x = some s := by unfold Xm.write; rw [HXR.out, HXW.out]; rfl
      rw [hwv] at hWr2
      unfold toldW at hWr2
      dsimp only at hWr2
      rw [← HSB.out] at hWr2
      have HB16 := Lib.hid (HB15.out.trans (hb16.mono HB15.out.size))
      have z0 : ∀ oo : Obj, (w15.alloc (.cells #[.string x0, .slice xA xna xca, .string x2, .slice xK xnk xck] 26)).cell? ⟨gX, 0, none⟩ = some (.string x0) := fun _ => by rw [← hw16]; exact hX16.c0
      have k0 := hX16.c0
      have k1 := hX16.c1
      have k2 := hX16.c2
      have k3 := hX16.c3
      have HW16 := Lib.hid hw16
      have HGX := Lib.hid hgX
      have hbeq : (sb.toList == sb.toList) = true := by simp
      clear hwv hp hb15 hRd hxt hb16 hX16 hw16 hgX z0
      go_upto_region 16 with fail
      rw [← HW16.out, ← HGX.out]
      go_wp2_with fail
      refine hWr2.mono ?_
      rintro e w17 ⟨rfl, hb17⟩
      have HB17 := Lib.hid (HB16.out.trans (hb17.mono HB16.out.size))
      clear hb17 hWr2
      go_wp2_with fail
      go_ret
      exact ⟨rfl, HB17.out⟩
  | true =>
    rw [if_pos rfl] at hWr
    unfold toldW at hWr
    dsimp only at hWr
    rw [← htb] at hWr
    clear htb
    go_wp2_with fail
    refine hWr.mono ?_
    rintro e w4 ⟨rfl, hb4⟩
    have HB4 := Lib.hid (HB3.out.trans (hb4.mono HB3.out.size))
    have HE4 := Lib.hid (HE3.out.next hb4)
    have HT4 := Lib.hid (HT3.out.next hb4)
    have HBX4 := Lib.hid (HBX3.out.next hb4)
    clear hb4 hWr c0 c1 c2 c3
    have hRd1 := read_any tx w4 HE4.out (by have := HTL.out; omega)
    rw [HRN.out (by first | rfl | trivial), ← HTB.out] at hRd1
    go_wp2_with fail
    refine hRd1.mono ?_
    rintro e w5 ⟨hp1, hb5⟩
    obtain ⟨m0, mA, mna, mca, m2, mK, mnk, mck, rfl, hmt⟩ := read_some hp1
    obtain ⟨w6, hw6⟩ : ∃ w6, w6 = w5.alloc (.cells #[.string m0, .slice mA mna mca, .string m2, .slice mK mnk mck] 26) := ⟨_, rfl⟩
    obtain ⟨gM, hgM⟩ : ∃ g, g = w5.heap.size := ⟨_, rfl⟩
    have hb56 : Below w5.heap.size w5 w6 := by rw [hw6]; exact (Below.refl _ _).alloc (Nat.le_refl _) _
    have hM6 : BN w6 gM (.string m0) (.slice mA mna mca) (.string m2) (.slice mK mnk mck) := by rw [hw6, hgM]; exact heap_alloc_new w5 _
    have hb46 := hb5.trans (hb56.mono hb5.size)
    have HB6 := Lib.hid (HB4.out.trans (hb46.mono HB4.out.size))
    have HE6 := Lib.hid (HE4.out.next hb46)
    have hN6 := HBX4.out.next hb46
    have hSm := refSame_any _ n (Nat.le_refl _) _ _ w6 (hmt.next hb56) (HT4.out.next hb46) HLIM.out
    have k0 := hM6.c0
    have k1 := hM6.c1
    have k2 := hM6.c2
    have k3 := hM6.c3
    have n0 := hN6.c0
    have n1 := hN6.c1
    have n2 := hN6.c2
    have n3 := hN6.c3
    have HW6 := Lib.hid hw6
    have HGM := Lib.hid hgM
    clear hp1 hb5 hmt hb56 hM6 hb46 hN6 hw6 hgM hRd1 HB4 HE4 HT4 HBX4
    go_upto_region 11 with fail
    rw [← HW6.out, ← HGM.out]
    go_wp2_with fail
    refine hSm.mono ?_
    rintro e w7 ⟨rfl, hb7⟩
    have HB_w7 := Lib.hid (HB6.out.trans (hb7.mono HB6.out.size))
    have HE_w7 := Lib.hid (HE6.out.next hb7)
    clear hb7 hSm k0 k1 k2 k3 n0 n1 n2 n3 HRN HTL HTB HW6 HGM
    go_wp2_with fail
    have HSM : Hid (∀ w' : World, Calls Tryd.prog 9 #[.agg #[.string ⟨#[]⟩, .slice none 0 0, .string ⟨#[]⟩, .slice none 0 0], .agg #[.string ⟨#[]⟩, .slice none 0 0, .string ⟨#[]⟩, .slice none 0 0]] w' fun e w'' => e = .returned (.bool true) ∧ Below w'.heap.size w' w'') := Lib.hid (fun w' => refSame_any _ Xm.zero (Nat.le_refl _) _ _ w' (zero_tr _ _) (zero_tr _ _) zero_lim)
    have hRd := read_any s w7 HE_w7.out (by rw [← HSL.out]; omega)
    rw [← HSB.out] at hRd
    cases hx : Xm.read s with
    | none =>
      rw [hx] at hRd
      clear hx
      refine hRd.mono ?_
      rintro e w15 ⟨hp, hb15⟩
      have hpe : e = .returned (.tuple #[.agg #[.string ⟨#[]⟩, .slice none 0 0, .string ⟨#[]⟩, .slice none 0 0], .int .i64 10]) := hp
      subst hpe
      have HB15 := Lib.hid (HB_w7.out.trans (hb15.mono HB_w7.out.size))
      clear hp hb15 hRd
      go_wp2_with fail
      refine (HSM.out _).mono ?_
      rintro e w16 ⟨rfl, hb16⟩
      have HB16 := Lib.hid ((HB15.out.alloc HB15.out.size _).trans (hb16.mono (by have := HB15.out.size; simp; omega)))
      clear hb16
      go_wp2_with fail
      go_ret
      exact ⟨rfl, HB16.out⟩
    | some x =>
      rw [hx] at hRd
      obtain ⟨hxr, hxw⟩ := (Xm.read_is _ _).1 hx
      have HXR := Lib.hid hxr
      have HXW := Lib.hid hxw
      clear hx hxr hxw
      refine hRd.mono ?_
      rintro e w15 ⟨hp, hb15⟩
      obtain ⟨x0, xA, xna, xca, x2, xK, xnk, xck, rfl, hxt⟩ := read_some hp
      have HB15 := Lib.hid (HB_w7.out.trans (hb15.mono HB_w7.out.size))
      obtain ⟨w16, hw16⟩ : ∃ w16, w16 = w15.alloc (.cells #[.string x0, .slice xA xna xca, .string x2, .slice xK xnk xck] 26) := ⟨_, rfl⟩
      obtain ⟨gX, hgX⟩ : ∃ g, g = w15.heap.size := ⟨_, rfl⟩
      have hb16 : Below w15.heap.size w15 w16 := by rw [hw16]; exact (Below.refl _ _).alloc (Nat.le_refl _) _
      have hX16 : BN w16 gX (.string x0) (.slice xA xna xca) (.string x2) (.slice xK xnk xck) := by rw [hw16, hgX]; exact heap_alloc_new w15 _
      have hWr2 := writeX_any x _ w16 ((HE_w7.out.next hb15).next hb16) (hxt.next hb16) (limits (by rw [HXW.out, ← HSL.out]; omega)) (by rw [HXW.out, ← HSL.out]; omega)
      have hwv : Xm.write x = some s := by unfold Xm.write; rw [HXR.out, HXW.out]; rfl
      rw [hwv] at hWr2
      unfold toldW at hWr2
      dsimp only at hWr2
      rw [← HSB.out] at hWr2
      have HB16 := Lib.hid (HB15.out.trans (hb16.mono HB15.out.size))
      have z0 : ∀ oo : Obj, (w15.alloc (.cells #[.string x0, .slice xA xna xca, .string x2, .slice xK xnk xck] 26)).cell? ⟨gX, 0, none⟩ = some (.string x0) := fun _ => by rw [← hw16]; exact hX16.c0
      have k0 := hX16.c0
      have k1 := hX16.c1
      have k2 := hX16.c2
      have k3 := hX16.c3
      have HW16 := Lib.hid hw16
      have HGX := Lib.hid hgX
      have hbeq : (sb.toList == sb.toList) = true := by simp
      clear hwv hp hb15 hRd hxt hb16 hX16 hw16 hgX z0
      go_upto_region 16 with fail
      rw [← HW16.out, ← HGX.out]
      go_wp2_with fail
      refine hWr2.mono ?_
      rintro e w17 ⟨rfl, hb17⟩
      have HB17 := Lib.hid (HB16.out.trans (hb17.mono HB16.out.size))
      clear hb17 hWr2
      go_wp2_with fail
      go_ret
      exact ⟨rfl, HB17.out⟩
end Go.Proofs.YtpleaopefngafaaDoor
