/- XmlHolds, for any two texts: walked whole. -/
import Derived.Test.YtcfgppdbclajfaaDoorXmHp
import Derived.Test.YtcfgppdbclajfaaDoorXmTe
import Derived.Test.YtcfgppdbclajfaaDoorXmX
namespace Go.Proofs.YtcfgppdbclajfaaDoor
set_option maxRecDepth 8000
open Go.RowKit

set_option maxHeartbeats 1600000 in
theorem xmlHolds_any (s t : List UInt8) (w : World) (hE : EnvX w) (hms : s.length ≤ 9223372036854775807) (hmt : t.length ≤ 9223372036854775807) :
    Calls Tryd.prog 6 #[.string (S s), .string (S t)] w fun e w' => e = .returned (.bool true) ∧ Below w.heap.size w w' := by
  have HAW : Hid (∀ w' : World, EnvX w' → Calls Tryd.prog 8 #[] w' fun e w'' => e = .returned (.bool true) ∧ Below w'.heap.size w' w'') := Lib.hid (fun w' h => awake_any w' h)
  have hss : (S s).size = s.length := rfl
  have hst : (S t).size = t.length := rfl
  have HS1 : Hid (∀ w' : World, Calls Tryd.prog 19 #[.string (S s)] w' fun e w'' => e = .returned (.bool (Xm.shownB s)) ∧ w' = w'') := Lib.hid (fun w' => refShown_any s w' hms)
  have HS2 : Hid (∀ w' : World, Calls Tryd.prog 19 #[.string (S t)] w' fun e w'' => e = .returned (.bool (Xm.shownB t)) ∧ w' = w'') := Lib.hid (fun w' => refShown_any t w' hmt)
  by_cases hs2 : 200 < s.length
  · have h1 : (200 : Int) < (s.length : Int) := by omega
    go_enter Tryd.func6, Tryd.ntmps6
    go_wp2_with fail
    refine (HAW.out _ hE).mono ?_
    rintro e w1 ⟨rfl, hb1⟩
    go_wp2_with fail
    go_ret
    exact ⟨rfl, hb1⟩
  have h1 : ¬ (200 : Int) < (s.length : Int) := by omega
  by_cases ht2 : 200 < t.length
  · have h2 : (200 : Int) < (t.length : Int) := by omega
    go_enter Tryd.func6, Tryd.ntmps6
    go_wp2_with fail
    refine (HAW.out _ hE).mono ?_
    rintro e w1 ⟨rfl, hb1⟩
    go_wp2_with fail
    go_ret
    exact ⟨rfl, hb1⟩
  have h2 : ¬ (200 : Int) < (t.length : Int) := by omega
  cases hsh : Xm.shownB s with
  | false =>
    rw [hsh] at HS1
    go_enter Tryd.func6, Tryd.ntmps6
    go_wp2_with fail
    refine (HAW.out _ hE).mono ?_
    rintro e w1 ⟨rfl, hb1⟩
    go_wp2_with fail
    refine (HS1.out _).mono ?_
    rintro e w' ⟨rfl, rfl⟩
    go_wp2_with fail
    go_ret
    exact ⟨rfl, hb1⟩
  | true =>
  cases hth : Xm.shownB t with
  | false =>
    rw [hsh] at HS1
    rw [hth] at HS2
    go_enter Tryd.func6, Tryd.ntmps6
    go_wp2_with fail
    refine (HAW.out _ hE).mono ?_
    rintro e w1 ⟨rfl, hb1⟩
    go_wp2_with fail
    refine (HS1.out _).mono ?_
    rintro e w' ⟨rfl, rfl⟩
    go_wp2_with fail
    refine (HS2.out _).mono ?_
    rintro e w' ⟨rfl, rfl⟩
    go_wp2_with fail
    go_ret
    exact ⟨rfl, hb1⟩
  | true =>
    rw [hsh] at HS1
    rw [hth] at HS2
    have HEs : Hid (∀ w' : World, EnvX w' → Calls Tryd.prog 11 #[.string (S s)] w' fun e w'' => e = .returned (.string (S (Xm.escape s))) ∧ Below w'.heap.size w' w'') := Lib.hid (fun w' h => escape_any s w' h (by omega))
    have hxl : (Xm.escape s).length ≤ 1200 := by have := Xm.escape_bound s; omega
    have HU : Hid (∀ w' : World, EnvX w' → Calls Tryd.prog 9 #[.string (S (Xm.escape s))] w' fun e w'' => e = .returned (.tuple #[.string (S s), .int .i64 0]) ∧ Below w'.heap.size w' w'') := Lib.hid (fun w' h => by
      have := unescape_any (Xm.escape s) w' h (by omega)
      rw [Xm.un_end] at this
      exact this)
    have HNE := Lib.hid (Xm.esc_ne4 (l := s))
    obtain ⟨x, hx⟩ : ∃ x, x = Xm.escape s := ⟨_, rfl⟩
    rw [← hx] at HEs HU HNE hxl
    have HX := Lib.hid hx
    clear hx
    obtain ⟨xs, hxs⟩ : ∃ xs, xs = S x := ⟨_, rfl⟩
    have HXL := Lib.hid (show xs.data.toList = x by rw [hxs]; exact S_toList x)
    have hxz : xs.size = x.length := by rw [hxs]; rfl
    rw [← hxs] at HEs HU
    have HXS := Lib.hid hxs
    clear hxs
    go_enter Tryd.func6, Tryd.ntmps6
    go_wp2_with fail
    refine (HAW.out _ hE).mono ?_
    rintro e w1 ⟨rfl, hb1⟩
    have hE1 := hE.next hb1
    go_wp2_with fail
    refine (HS1.out _).mono ?_
    rintro e w' ⟨rfl, rfl⟩
    go_wp2_with fail
    refine (HS2.out _).mono ?_
    rintro e w' ⟨rfl, rfl⟩
    go_wp2_with fail
    refine (HEs.out _ hE1).mono ?_
    rintro e w2 ⟨rfl, hb2⟩
    have hE2 := hE1.next hb2
    have hbw2 := hb1.trans (hb2.mono hb1.size)
    clear hb1 hb2 hE1
    go_wp2_with fail
    clear h1 h2
    go_loopw [7] (fun i wr => ∃ k : Nat, k ≤ x.length ∧ i = .int .i64 k ∧ Below w2.heap.size w2 wr) (fun i _ => x.length - (intOf i).toNat)
    case atStart => exact ⟨0, Nat.zero_le _, rfl, Below.refl _ _⟩
    case round =>
      obtain ⟨k, hk, rfl, hbel⟩ := hrel
      have j0 : (0 : Int) ≤ (k : Int) := by omega
      by_cases hlt : k < x.length
      · have hks : k < xs.size := by omega
        have hc := HNE.out xs[k] (by
          have h := HXL.out
          subst h
          exact List.getElem_mem (l := xs.data.toList) (by simpa using hks))
        have k60 := u8_ne (n := 60) 60 rfl hc.1
        have k62 := u8_ne (n := 62) 62 rfl hc.2.1
        have k34 := u8_ne (n := 34) 34 rfl hc.2.2.1
        have k39 := u8_ne (n := 39) 39 rfl hc.2.2.2
        have j1 : (k : Int) < (x.length : Int) := by omega
        clear hc
        go_wp2_with fail
        go_roundw
        case rel => exact ⟨k + 1, by omega, by go_num, hbel⟩
        case measure => simp [intOf]; omega
      · have j1 : ¬ (k : Int) < (x.length : Int) := by omega
        have hE3 := hE2.next hbel
        have hbw3 := hbw2.trans (hbel.mono hbw2.size)
        clear hbel hE2 hbw2
        go_wp2_with fail
        refine (HU.out _ hE3).mono ?_
        rintro e w4 ⟨rfl, hb4⟩
        have hE4 := hE3.next hb4
        have hbw4 := hbw3.trans (hb4.mono hbw3.size)
        clear hb4 hE3 hbw3
        obtain ⟨gA, hgA⟩ : ∃ gA, gA = w4.heap.size := ⟨_, rfl⟩
        obtain ⟨gN, hgN⟩ : ∃ gN, gN = w4.heap.size + 1 := ⟨_, rfl⟩
        obtain ⟨gK, hgK⟩ : ∃ gK, gK = w4.heap.size + 1 + 1 := ⟨_, rfl⟩
        obtain ⟨wa, hwa⟩ : ∃ wa, wa = w4.alloc (.cells #[.string ⟨#[121]⟩, .string (S t)] 39) := ⟨_, rfl⟩
        obtain ⟨wb, hwb⟩ : ∃ wb, wb = wa.alloc (.cells #[.string ⟨#[120]⟩, .slice (some ⟨w4.heap.size, 0, none⟩) 1 1, .string (S s), .slice none 0 0] 31) := ⟨_, rfl⟩
        obtain ⟨w5, hw5⟩ : ∃ w5, w5 = wb.alloc (.cells #[.string ⟨#[120]⟩, .slice (some ⟨w4.heap.size, 0, none⟩) 1 1, .string (S s), .slice none 0 0, .string ⟨#[120]⟩, .slice (some ⟨w4.heap.size, 0, none⟩) 1 1, .string (S s), .slice none 0 0] 31) := ⟨_, rfl⟩
        have hsa : wa.heap.size = w4.heap.size + 1 := by rw [hwa]; simp
        have hsb : wb.heap.size = w4.heap.size + 1 + 1 := by rw [hwb]; simp [hsa]
        have hba : Below w4.heap.size w4 wa := by rw [hwa]; exact (Below.refl _ _).alloc (Nat.le_refl _) _
        have hbb : Below wa.heap.size wa wb := by rw [hwb]; exact (Below.refl _ _).alloc (Nat.le_refl _) _
        have hbc : Below wb.heap.size wb w5 := by rw [hw5]; exact (Below.refl _ _).alloc (Nat.le_refl _) _
        have hPa : BP wa gA (.string ⟨#[121]⟩) (.string (S t)) := by rw [hwa, hgA]; exact heap_alloc_new w4 _
        have hP5 := (hPa.next hbb).next hbc
        have hNb : BN wb gN (.string ⟨#[120]⟩) (.slice (some ⟨gA, 0, none⟩) 1 1) (.string (S s)) (.slice none 0 0) := by rw [hwb, hgN, hgA, ← hsa]; exact heap_alloc_new wa _
        have hN5 := hNb.next hbc
        have hK5 : w5.heap[gK]? = some (.cells #[.string ⟨#[120]⟩, .slice (some ⟨gA, 0, none⟩) 1 1, .string (S s), .slice none 0 0, .string ⟨#[120]⟩, .slice (some ⟨gA, 0, none⟩) 1 1, .string (S s), .slice none 0 0] 31 (0, 0)) := by rw [hw5, hgK, hgA, ← hsb]; exact heap_alloc_new wb _
        have hKid : Tr w5 w5.heap.size (Xm.hN s t) (.agg #[.string ⟨#[120]⟩, .slice (some ⟨gA, 0, none⟩) 1 1, .string (S s), .slice none 0 0]) := by
          unfold Xm.hN Tr
          refine ⟨some ⟨gA, 0, none⟩, 1, none, 0, rfl, fun _ => ⟨gA, 0, rfl, hP5.lt, fun k hk => ?_⟩, fun hn => absurd hn (by simp)⟩
          obtain rfl : k = 0 := by simpa using hk
          exact ⟨hP5.c0, hP5.c1⟩
        have hT5 : Tr w5 w5.heap.size (Xm.hZ s t) (.agg #[.string ⟨#[122]⟩, .slice none 0 0, .string ⟨#[]⟩, .slice (some ⟨gK, 0, none⟩) 2 2]) := by
          unfold Xm.hZ Tr
          refine ⟨none, 0, some ⟨gK, 0, none⟩, 2, rfl, fun h => absurd h (by simp), fun _ => ⟨gK, 0, rfl, blk_lt hK5, ?_⟩⟩
          have hc : ∀ (j : Nat), w5.cell? ⟨gK, j, none⟩ = (#[.string ⟨#[120]⟩, .slice (some ⟨gA, 0, none⟩) 1 1, .string (S s), .slice none 0 0, .string ⟨#[120]⟩, .slice (some ⟨gA, 0, none⟩) 1 1, .string (S s), .slice none 0 0] : Array Value)[j]? := fun j => cell_of_row w5 gK j _ _ _ hK5
          unfold TrL
          refine ⟨⟨_, _, _, _, (hc 0).trans rfl, (hc 1).trans rfl, (hc 2).trans rfl, (hc 3).trans rfl, hKid⟩, ?_⟩
          unfold TrL
          refine ⟨⟨_, _, _, _, (hc 4).trans rfl, (hc 5).trans rfl, (hc 6).trans rfl, (hc 7).trans rfl, hKid⟩, ?_⟩
          unfold TrL
          trivial
        have hbw5 := ((hbw4.trans (hba.mono hbw4.size)).trans (hbb.mono (by have := hbw4.size; omega))).trans (hbc.mono (by have := hbw4.size; omega))
        have hE5 := ((hE4.next hba).next hbb).next hbc
        have hshort := Xm.hZ_short s t
        have hright := Xm.hZ_right hsh hth
        have hWe : Xm.write (Xm.hZ s t) = some (Xm.wr (Xm.hZ s t)) := by unfold Xm.write; rw [hright]; rfl
        have hRe : Xm.read (Xm.wr (Xm.hZ s t)) = some (Xm.hZ s t) := (Xm.read_is _ _).2 ⟨hright, rfl⟩
        have HLIM : Hid (All (Lim 1099511627776) (Xm.hZ s t)) := Lib.hid (limits (by omega))
        have HWR := Lib.hid (writeX_any (Xm.hZ s t) _ w5 hE5 hT5 HLIM.out (by omega))
        rw [hWe] at HWR
        unfold toldW at HWR
        have HRD : Hid (∀ w' : World, EnvX w' → Calls Tryd.prog 13 #[.string (S (Xm.wr (Xm.hZ s t)))] w' fun e w'' => ReadPost (some (Xm.hZ s t)) e w'' ∧ Below w'.heap.size w' w'') := Lib.hid (fun w' h => by
          have := read_any (Xm.wr (Xm.hZ s t)) w' h (by omega)
          rw [hRe] at this
          exact this)
        obtain ⟨y, hy⟩ : ∃ y, y = Xm.escape t := ⟨_, rfl⟩
        have hyl : y.length ≤ 1200 := by have := Xm.escape_bound t; rw [hy]; omega
        have HWE : Hid (Xm.wr (Xm.hZ s t) = (((((((([60, 122, 62, 60, 120, 32, 121, 61, 34] ++ y) ++ [34, 62]) ++ x) ++ [60, 47, 120, 62, 60, 120, 32, 121, 61, 34]) ++ y) ++ [34, 62]) ++ x) ++ [60, 47, 120, 62, 60, 47, 122, 62])) := Lib.hid (by
          have e : Xm.wr (Xm.hZ s t) = 60 :: ([122] ++ []) ++ (62 :: ([] ++ ((Xm.wr (Xm.hN s t) ++ (Xm.wr (Xm.hN s t) ++ [])) ++ (60 :: 47 :: ([122] ++ [62]))))) := rfl
          have e2 : Xm.wr (Xm.hN s t) = 60 :: ([120] ++ (32 :: ([121] ++ ([61, 34] ++ (Xm.escape t ++ [34]))) ++ [])) ++ (62 :: (Xm.escape s ++ ([] ++ (60 :: 47 :: ([120] ++ [62]))))) := rfl
          rw [e, e2, ← hy, ← HX.out]
          simp)
        have HY := Lib.hid hy
        clear hy
        generalize Xm.wr (Xm.hZ s t) = W at HWR HRD HWE
        have HW5 := Lib.hid (show w5 = ((w4.alloc (.cells #[.string ⟨#[121]⟩, .string (S t)] 39)).alloc (.cells #[.string ⟨#[120]⟩, .slice (some ⟨w4.heap.size, 0, none⟩) 1 1, .string (S s), .slice none 0 0] 31)).alloc (.cells #[.string ⟨#[120]⟩, .slice (some ⟨w4.heap.size, 0, none⟩) 1 1, .string (S s), .slice none 0 0, .string ⟨#[120]⟩, .slice (some ⟨w4.heap.size, 0, none⟩) 1 1, .string (S s), .slice none 0 0] 31) by rw [hw5, hwb, hwa])
        have HGK := Lib.hid hgK
        have HGN := Lib.hid hgN
        have HGA := Lib.hid hgA
        have HP5 := Lib.hid hP5
        have HN5 := Lib.hid hN5
        clear hgA hgN hgK hwa hwb hw5 hsa hsb hba hbb hbc hPa hP5 hNb hN5 hK5 hKid hT5 hshort hright hWe hRe hE4 hbw4
        go_wp2_with fail
        rw [← HW5.out, ← HGK.out, ← HGN.out, ← HGA.out]
        refine HWR.out.mono ?_
        rintro e w6 ⟨rfl, hb6⟩
        have hP6 := HP5.out.next hb6
        have hN6 := HN5.out.next hb6
        have hbw6 := hbw5.trans (hb6.mono hbw5.size)
        have hE6 := hE5.next hb6
        clear hb6 hbw5 hE5
        go_wp2_with fail
        refine (HRD.out _ hE6).mono ?_
        rintro e w7 ⟨⟨v, rfl, hTr7⟩, hb7⟩
        have hP7 := hP6.next hb7
        have hN7 := hN6.next hb7
        have hbw7 := hbw6.trans (hb7.mono hbw6.size)
        have hE7 := hE6.next hb7
        clear hb7 hbw6 hE6 hP6 hN6
        obtain ⟨mA, mca, mK, mck, hv, _, hmk⟩ := hTr7.form
        subst hv
        obtain ⟨b, off, rfl, hblt, htl⟩ := hmk (show 0 < 2 by decide)
        have htl' : TrL w7 w7.heap.size b off 0 [Xm.hN s t, Xm.hN s t] := htl
        unfold TrL at htl'
        obtain ⟨⟨v0, v1, v2, v3, c0, c1, c2, c3, hk0⟩, htl'⟩ := htl'
        unfold TrL at htl'
        obtain ⟨⟨u0, u1, u2, u3, d0, d1, d2, d3, hk1⟩, _⟩ := htl'
        clear htl
        obtain ⟨w8, hw8⟩ : ∃ w8, w8 = w7.alloc (.cells #[.string (S (Xm.hZ s t).name), .slice mA (Xm.hZ s t).attrs.length mca, .string (S (Xm.hZ s t).text), .slice (some ⟨b, off, none⟩) 2 mck] 31) := ⟨_, rfl⟩
        obtain ⟨gM, hgM⟩ : ∃ gM, gM = w7.heap.size := ⟨_, rfl⟩
        have hM8 : BN w8 gM (.string (S (Xm.hZ s t).name)) (.slice mA (Xm.hZ s t).attrs.length mca) (.string (S (Xm.hZ s t).text)) (.slice (some ⟨b, off, none⟩) 2 mck) := by rw [hw8, hgM]; exact heap_alloc_new w7 _
        have hb8 : Below w7.heap.size w7 w8 := by rw [hw8]; exact (Below.refl _ _).alloc (Nat.le_refl _) _
        have hP8 := hP7.next hb8
        have hE8 := hE7.next hb8
        have hN8 := hN7.next hb8
        have hbw8 := hbw7.trans (hb8.mono hbw7.size)
        have hk08 := hk0.next hb8
        have hk18 := hk1.next hb8
        have hcc : ∀ j, w8.cell? ⟨b, j, none⟩ = w7.cell? ⟨b, j, none⟩ := fun j => hb8.cell (p := ⟨b, j, none⟩) hblt
        have hb88 : b < w8.heap.size := Nat.lt_of_lt_of_le hblt hb8.size
        have HSM : ∀ (v : Value), Tr w8 w8.heap.size (Xm.hN s t) v → ∀ w' : World, Below w8.heap.size w8 w' → Calls Tryd.prog 15 #[v, .agg #[.string ⟨#[120]⟩, .slice (some ⟨gA, 0, none⟩) 1 1, .string (S s), .slice none 0 0]] w' fun e w'' => e = .returned (.bool true) ∧ Below w8.heap.size w8 w'' := by
          intro v hv w' hb
          have hlim : All (Lim 1099511627776) (Xm.hN s t) := by
            have := HLIM.out
            unfold Xm.hZ All at this
            have h2 := this.2
            unfold AllL at h2
            exact h2.1
          have hn : Tr w8 w8.heap.size (Xm.hN s t) (.agg #[.string ⟨#[120]⟩, .slice (some ⟨gA, 0, none⟩) 1 1, .string (S s), .slice none 0 0]) := by
            unfold Xm.hN Tr
            refine ⟨some ⟨gA, 0, none⟩, 1, none, 0, rfl, fun _ => ⟨gA, 0, rfl, hP8.lt, fun k hk => ?_⟩, fun hn => absurd hn (by simp)⟩
            obtain rfl : k = 0 := by simpa using hk
            exact ⟨hP8.c0, hP8.c1⟩
          refine (refSame_any _ (Xm.hN s t) (Nat.le_refl _) v _ w' (hv.next hb) (hn.next hb) hlim).mono ?_
          rintro e w'' ⟨rfl, hb'⟩
          exact ⟨rfl, hb.trans (hb'.mono hb.size)⟩
        obtain ⟨t0, ht0⟩ : ∃ t0 : List UInt8, t0 = ([60, 122, 62, 60, 120, 32, 121, 61, 34] : List UInt8) ++ y := ⟨_, rfl⟩
        have hz0 : t0.length ≤ 1300 := by rw [ht0]; simp; omega
        have ad0 : ∀ w' : World, (Op.stringOp .add ⟨#[60, 122, 62, 60, 120, 32, 121, 61, 34]⟩ (S y)).run Tryd.prog w' = .ok (.string (S t0)) w' := fun w' => by rw [ht0]; exact run_add_S w' ([60, 122, 62, 60, 120, 32, 121, 61, 34] : List UInt8) y (by first | omega | (simp; omega))
        obtain ⟨t1, ht1⟩ : ∃ t1 : List UInt8, t1 = t0 ++ ([34, 62] : List UInt8) := ⟨_, rfl⟩
        have hz1 : t1.length ≤ 2600 := by rw [ht1]; simp; omega
        have ad1 : ∀ w' : World, (Op.stringOp .add (S t0) ⟨#[34, 62]⟩).run Tryd.prog w' = .ok (.string (S t1)) w' := fun w' => by rw [ht1]; exact run_add_S w' t0 ([34, 62] : List UInt8) (by first | omega | (simp; omega))
        obtain ⟨t2, ht2⟩ : ∃ t2 : List UInt8, t2 = t1 ++ x := ⟨_, rfl⟩
        have hz2 : t2.length ≤ 3900 := by rw [ht2]; simp; omega
        have ad2 : ∀ w' : World, (Op.stringOp .add (S t1) xs).run Tryd.prog w' = .ok (.string (S t2)) w' := fun w' => by rw [ht2]; exact (by rw [HXS.out]; exact run_add_S w' t1 x (by first | omega | (simp; omega)))
        obtain ⟨t3, ht3⟩ : ∃ t3 : List UInt8, t3 = t2 ++ ([60, 47, 120, 62, 60, 120, 32, 121, 61, 34] : List UInt8) := ⟨_, rfl⟩
        have hz3 : t3.length ≤ 5200 := by rw [ht3]; simp; omega
        have ad3 : ∀ w' : World, (Op.stringOp .add (S t2) ⟨#[60, 47, 120, 62, 60, 120, 32, 121, 61, 34]⟩).run Tryd.prog w' = .ok (.string (S t3)) w' := fun w' => by rw [ht3]; exact run_add_S w' t2 ([60, 47, 120, 62, 60, 120, 32, 121, 61, 34] : List UInt8) (by first | omega | (simp; omega))
        obtain ⟨t4, ht4⟩ : ∃ t4 : List UInt8, t4 = t3 ++ y := ⟨_, rfl⟩
        have hz4 : t4.length ≤ 6500 := by rw [ht4]; simp; omega
        have ad4 : ∀ w' : World, (Op.stringOp .add (S t3) (S y)).run Tryd.prog w' = .ok (.string (S t4)) w' := fun w' => by rw [ht4]; exact run_add_S w' t3 y (by first | omega | (simp; omega))
        obtain ⟨t5, ht5⟩ : ∃ t5 : List UInt8, t5 = t4 ++ ([34, 62] : List UInt8) := ⟨_, rfl⟩
        have hz5 : t5.length ≤ 7800 := by rw [ht5]; simp; omega
        have ad5 : ∀ w' : World, (Op.stringOp .add (S t4) ⟨#[34, 62]⟩).run Tryd.prog w' = .ok (.string (S t5)) w' := fun w' => by rw [ht5]; exact run_add_S w' t4 ([34, 62] : List UInt8) (by first | omega | (simp; omega))
        obtain ⟨t6, ht6⟩ : ∃ t6 : List UInt8, t6 = t5 ++ x := ⟨_, rfl⟩
        have hz6 : t6.length ≤ 9100 := by rw [ht6]; simp; omega
        have ad6 : ∀ w' : World, (Op.stringOp .add (S t5) xs).run Tryd.prog w' = .ok (.string (S t6)) w' := fun w' => by rw [ht6]; exact (by rw [HXS.out]; exact run_add_S w' t5 x (by first | omega | (simp; omega)))
        obtain ⟨t7, ht7⟩ : ∃ t7 : List UInt8, t7 = t6 ++ ([60, 47, 120, 62, 60, 47, 122, 62] : List UInt8) := ⟨_, rfl⟩
        have hz7 : t7.length ≤ 10400 := by rw [ht7]; simp; omega
        have ad7 : ∀ w' : World, (Op.stringOp .add (S t6) ⟨#[60, 47, 120, 62, 60, 47, 122, 62]⟩).run Tryd.prog w' = .ok (.string (S t7)) w' := fun w' => by rw [ht7]; exact run_add_S w' t6 ([60, 47, 120, 62, 60, 47, 122, 62] : List UInt8) (by first | omega | (simp; omega))
        have hcmp : ((S W).toList == (S t7).toList) = true := by rw [HWE.out, ht7, ht6, ht5, ht4, ht3, ht2, ht1, ht0]; simp
        clear ht0 ht1 ht2 ht3 ht4 ht5 ht6 ht7 hz0 hz1 hz2 hz3 hz4 hz5 hz6 hz7
        have HET : Hid (∀ w' : World, Below w8.heap.size w8 w' → Calls Tryd.prog 11 #[.string (S t)] w' fun e w'' => e = .returned (.string (S y)) ∧ Below w8.heap.size w8 w'') := Lib.hid (fun w' hb => by
          refine (escape_any t w' (hE8.next hb) (by omega)).mono ?_
          rintro e w'' ⟨rfl, hb'⟩
          exact ⟨by rw [HY.out], hb.trans (hb'.mono hb.size)⟩)
        have HSA := Lib.hid (HSM _ hk08)
        have HSB := Lib.hid (HSM _ hk18)
        have HK : Hid (∀ w' : World, Below w8.heap.size w8 w' → w'.cell? ⟨gM, 3, none⟩ = some (.slice (some ⟨b, off, none⟩) 2 mck) ∧ w'.cell? ⟨gN, 0, none⟩ = some (.string ⟨#[120]⟩) ∧ w'.cell? ⟨gN, 1, none⟩ = some (.slice (some ⟨gA, 0, none⟩) 1 1) ∧ w'.cell? ⟨gN, 2, none⟩ = some (.string (S s)) ∧ w'.cell? ⟨gN, 3, none⟩ = some (.slice none 0 0) ∧
          w'.cell? ⟨b, off, none⟩ = some v0 ∧ w'.cell? ⟨b, off + 1, none⟩ = some v1 ∧ w'.cell? ⟨b, off + 2, none⟩ = some v2 ∧ w'.cell? ⟨b, off + 3, none⟩ = some v3 ∧ w'.cell? ⟨b, off + 4, none⟩ = some u0 ∧ w'.cell? ⟨b, off + 4 + 1, none⟩ = some u1 ∧ w'.cell? ⟨b, off + 4 + 2, none⟩ = some u2 ∧ w'.cell? ⟨b, off + 4 + 3, none⟩ = some u3 ∧ Below w8.heap.size w8 w') := Lib.hid (fun w' hb => by
          have hM := hM8.next hb
          have hN := hN8.next hb
          have hc : ∀ j, w'.cell? ⟨b, j, none⟩ = w7.cell? ⟨b, j, none⟩ := fun j => (hb.cell (p := ⟨b, j, none⟩) hb88).trans (hcc j)
          simp only [Nat.zero_mul, Nat.add_zero, Nat.zero_add, Nat.one_mul] at c0 c1 c2 c3 d0 d1 d2 d3
          exact ⟨hM.c3, hN.c0, hN.c1, hN.c2, hN.c3, (hc _).trans c0, (hc _).trans c1, (hc _).trans c2, (hc _).trans c3, (hc _).trans d0, (hc _).trans d1, (hc _).trans d2, (hc _).trans d3, hb⟩)
        have HW8 := Lib.hid hw8
        have HGM := Lib.hid hgM
        clear HSM hw8 hgM hM8 hb8 hP7 hN7 hbw7 hk0 hk1 hk08 hk18 hcc hP8 hN8 hTr7 c0 c1 c2 c3 d0 d1 d2 d3 hmk
        have hl2 : (Xm.hZ s t).kids.length = 2 := rfl
        unfold nV
        go_upto_region 16 with fail
        rw [← HW8.out, ← HGM.out]
        go_region_held3 (fun w' => w'.cell? ⟨gM, 3, none⟩ = some (.slice (some ⟨b, off, none⟩) 2 mck) ∧ w'.cell? ⟨gN, 0, none⟩ = some (.string ⟨#[120]⟩) ∧ w'.cell? ⟨gN, 1, none⟩ = some (.slice (some ⟨gA, 0, none⟩) 1 1) ∧ w'.cell? ⟨gN, 2, none⟩ = some (.string (S s)) ∧ w'.cell? ⟨gN, 3, none⟩ = some (.slice none 0 0) ∧
          w'.cell? ⟨b, off, none⟩ = some v0 ∧ w'.cell? ⟨b, off + 1, none⟩ = some v1 ∧ w'.cell? ⟨b, off + 2, none⟩ = some v2 ∧ w'.cell? ⟨b, off + 3, none⟩ = some v3 ∧ w'.cell? ⟨b, off + 4, none⟩ = some u0 ∧ w'.cell? ⟨b, off + 4 + 1, none⟩ = some u1 ∧ w'.cell? ⟨b, off + 4 + 2, none⟩ = some u2 ∧ w'.cell? ⟨b, off + 4 + 3, none⟩ = some u3 ∧ Below w8.heap.size w8 w')
          (first
            | exact HK.out _ hb15
            | exact HK.out _ hb13
            | exact HK.out _ hb11
            | exact HK.out _ hb9
            | exact HK.out _ (Below.drew (Below.refl _ _)))
          (first
            | (go_at_call 11; refine (HET.out _ hb13).mono ?_; rintro e w15 ⟨rfl, hb15⟩)
            | (go_at_call 11; refine (HET.out _ hb11).mono ?_; rintro e w13 ⟨rfl, hb13⟩)
            | (go_at_call 15; refine (HSB.out _ hb9).mono ?_; rintro e w11 ⟨rfl, hb11⟩)
            | (go_at_call 15; refine (HSA.out _ (Below.drew (Below.refl _ _))).mono ?_; rintro e w9 ⟨rfl, hb9⟩))
        go_wp2_with fail
        go_ret
        exact ⟨rfl, hbw8.trans (hb15.mono hbw8.size)⟩
end Go.Proofs.YtcfgppdbclajfaaDoor
