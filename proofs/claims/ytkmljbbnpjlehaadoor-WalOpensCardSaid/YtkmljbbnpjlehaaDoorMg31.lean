/- Append of package wal, for any log on a disk on which nothing is staged. Replace of package wal, for any log on a disk on which nothing is staged; frames of at most 2^14 bytes. -/
import Derived.Test.YtkmljbbnpjlehaaDoorMg30
namespace Go.Proofs.YtkmljbbnpjlehaaDoor
set_option maxRecDepth 8000
open Go.RowKit

theorem keep_area (d : Dk.D) (l : Wl.L) (frm : Nat) (fr : List UInt8) : (Wl.keep d l l.area frm fr).2.2.area = l.area := by
  unfold Wl.keep
  split
  · rfl
  · dsimp only
    split <;> rfl
theorem append_area (d : Dk.D) (l : Wl.L) (b : List UInt8) : (Wl.append d l b).2.2.area = l.area := by
  unfold Wl.append
  split
  · rfl
  · exact keep_area _ _ _ _

set_option maxHeartbeats 12800000 in
theorem append_any (F : Nat → Prop) (w : World) (P L : Nat) (d : Dk.D) (l : Wl.L) (A : Option Addr) (c n : Nat) (b : List UInt8) (hH : Hs w) (h : SY F w P L d l) (hnH : ¬ F 0) (hst : d.st = []) (h4 : 4 ≤ d.n) (hg : l.gen ≤ 262143) (ha : l.area ≤ 1) (hu : l.fr.length ≤ 8191)
    (hb : BCells w w.heap.size A b) (hn : b.length = n) (hnc : n ≤ c) (hc : c ≤ 9223372036854775807) :
    Calls Tryd.prog 56 #[.pointer (some ⟨L, 0, none⟩), .slice A n c] w (SyPost F w P L (Wl.append d l b)) := by
  have HSY := Lib.hid h
  obtain ⟨G, m, rfl, rfl, hG, hL, hm, hGF⟩ := h
  obtain ⟨R, hR⟩ : ∃ R, R = Wl.append d l b := ⟨_, rfl⟩
  have HR := Lib.hid hR
  rw [← hR]
  clear hR
  have HPU := Lib.hid (frOk.put A c n b w hH hn hb hnc hc)
  have HMM := Lib.hid (And.intro hG (And.intro hL (And.intro hm hGF)))
  have HH := Lib.hid hH
  clear hG hL hm hGF hH hb
  cases hput : Fr.put b with
  | error k =>
    have hk : k ≠ 0 := by
      unfold Fr.put at hput
      split at hput
      · injection hput with hput; omega
      · split at hput
        · injection hput with hput; omega
        · cases hput
    have HE : Hid (R = ((k : Int), d, l)) := Lib.hid (by rw [HR.out]; unfold Wl.append; rw [hput])
    rw [hput] at HPU
    have hkI : ((k : Int) != 0) = true := by simp; omega
    clear hput
    go_enter Tryd.func56, Tryd.ntmps56
    go_wp2_with fail
    refine HPU.out.mono ?_
    rintro _ w2 ⟨hb2, rfl⟩
    go_wp2_with fail
    go_ret
    rw [HE.out]
    exact sy_same HSY.out hb2 k
  | ok f =>
    have hf : f = Fr.frame b ∧ b.length ≤ 4000 := by
      unfold Fr.put at hput
      split at hput
      · cases hput
      · split at hput
        · cases hput
        · injection hput with hput
          exact ⟨hput.symm, by omega⟩
    have hfl : f.length = 6 + b.length := by rw [hf.1, Fr.frame_len]
    have HE : Hid (R = Wl.keep d l l.area (l.fr.length / 32) (l.fr ++ f)) := Lib.hid (by rw [HR.out]; unfold Wl.append; rw [hput])
    rw [hput] at HPU
    have HFL := Lib.hid (And.intro hfl hf.2)
    obtain ⟨fl, hfl2⟩ : ∃ fl, fl = f.length := ⟨_, rfl⟩
    obtain ⟨u, hu2⟩ : ∃ u, u = l.fr.length := ⟨_, rfl⟩
    have HUL := Lib.hid (And.intro hu2 hfl2)
    have hLlt : m.L < w.heap.size := HMM.out.2.1.lt _ ((mem_LF m _).2 (.inl rfl))
    clear hput hf hfl
    go_enter Tryd.func56, Tryd.ntmps56
    go_wp2_with fail
    refine HPU.out.mono ?_
    rintro _ w2 ⟨hb2, A2, c2, rfl, hrow2⟩
    rw [← hfl2] at hrow2 ⊢
    have hL2 := HMM.out.2.1.keep hb2
    obtain ⟨p0, p1, p2, p3⟩ := hL2.c
    have HUS := Lib.hid (fun (w' : World) (hb' : Below w.heap.size w w') => used_any w' m l (HMM.out.2.1.keep hb'))
    rw [← hu2] at p3 HUS hu
    clear hfl2 hu2
    have hd1 : Below w.heap.size w w2.drew := hb2.drew
    have hd2 : Below w.heap.size w (w2.alloc (.cells #[.slice m.A u m.c, .slice A2 fl c2] 36)).drew := (hb2.alloc hb2.size _).drew
    have HCO : Hid (Calls Tryd.prog 89 #[.slice (some ⟨w2.heap.size, 0, none⟩) 2 2] (w2.alloc (.cells #[.slice m.A u m.c, .slice A2 fl c2] 36)).drew (OwnPost (w2.alloc (.cells #[.slice m.A u m.c, .slice A2 fl c2] 36)).drew (u + fl) (l.fr ++ f))) := Lib.hid (by
      have hba : Below w2.heap.size w2 (w2.alloc (.cells #[.slice m.A u m.c, .slice A2 fl c2] 36)).drew := ((Below.refl _ _).alloc (Nat.le_refl _) _).drew
      exact concat_any _ _ m.c u c2 fl m.A A2 l.fr f (heap_alloc_new w2 _) (hL2.keep hba).fr HUL.out.1.symm (row_cells (own_below hrow2 hba)) HUL.out.2.symm (by have := HFL.out.1; have := HUL.out.2; omega) (by have := HFL.out; have := HUL.out.2; omega))
    have HKP : Hid (∀ (A5 : Option Addr) (c5 : Nat) (w5 : World), Below w.heap.size w w5 → Row (w2.alloc (.cells #[.slice m.A u m.c, .slice A2 fl c2] 36)).drew.heap.size w5 (.slice A5 (u + fl) c5) (l.fr ++ f) → Calls Tryd.prog 88 #[.pointer (some ⟨m.L, 0, none⟩), .int .i64 (l.area : Int), .int .i64 ((u : Int) / 32), .slice A5 (u + fl) c5] w5 (SyPost F w m.P m.L R)) := Lib.hid (fun A5 c5 w5 hb5 hrow5 => by
      have hbz := hd2.size
      have hlen : (l.fr ++ f).length = u + fl := by rw [List.length_append, ← HUL.out.1, ← HUL.out.2]
      have hcap : u + fl ≤ c5 ∧ c5 ≤ 9223372036854775807 := by
        have h := hrow5
        rw [← hlen] at h ⊢
        exact row_cap h
      obtain ⟨g5, cap5, hv5, hg5, hg5l⟩ := World.ownsRow.form hrow5 (by have := HFL.out.1; have := HUL.out.2; omega)
      injection hv5 with e1 e2 e3
      subst e1 e3
      have hAg : ∀ x ∈ blkOf (some (⟨g5, 0, none⟩ : Addr)), w.heap.size ≤ x ∧ x < w5.heap.size := fun x hx => by
        simp [blkOf] at hx
        omega
      have hk := keep_any G w5 m l d l.area (u / 32) (u + fl) c5 g5 0 (some ⟨g5, 0, none⟩) (l.fr ++ f) (HH.out.next hb5) (HMM.out.1.keep hb5) (fun x hx => by have := (HMM.out.2.2.2 x hx).2; have := hb5.size; omega) (HMM.out.2.1.keep hb5) (fun x hx => (HMM.out.2.2.1 x hx).1) hst h4 ha hg (row_cells hrow5) hlen (fun _ => rfl) (fun h => by cases h) hcap.1 hcap.2 (fun x hx hg => by have := (HMM.out.2.2.2 x hg).2; have := (hAg x hx).1; omega) (fun x hx => (hAg x hx).2) (by omega) (by have := HFL.out; have := HUL.out.2; omega) (fun hx => hnH (HMM.out.2.2.2 _ hx).1)
      rw [show ((u : Int) / 32) = ((u / 32 : Nat) : Int) by omega]
      have he : R = Wl.keep d l l.area (u / 32) (l.fr ++ f) := by rw [HE.out, HUL.out.1]
      rw [he]
      exact hk.mono (fun e w6 hk => sy_keep HMM.out.2.2.2 HMM.out.2.2.1 HMM.out.2.1.lt hb5 hAg hk))
    have q2 : ∀ w', Below w2.heap.size w2 w' → w'.cell? ⟨m.L, 2, none⟩ = some (.int .i64 (l.area : Int)) := fun w' hb' => (hL2.keep hb').c.2.2.1
    have HQ2 := Lib.hid q2
    clear q2
    go_wp2_with fail
    clear HR HPU HE HUL HFL
    have hqa : (w2.alloc (.cells #[.slice m.A u m.c, .slice A2 fl c2] 36)).cell? ⟨m.L, 2, none⟩ = some (.int .i64 (l.area : Int)) := HQ2.out _ ((Below.refl _ _).alloc (Nat.le_refl _) _)
    have hLlt2 : m.L < w2.heap.size := Nat.lt_of_lt_of_le hLlt hb2.size
    have hwu : IntKind.i64.wrap ((u : Int) / 32) = (u : Int) / 32 := IntWalk.i64_in _ (by omega)
    go_region_law (first
      | (go_simp; go_at_call 38; refine (HUS.out _ (by first | with_reducible exact hd1 | with_reducible exact hd2)).mono ?_; rintro e w' ⟨rfl, rfl⟩)
      | (go_simp; go_at_call 89; refine HCO.out.mono ?_; rintro e w5 ⟨A5, c5, rfl, hrow5, hb5c⟩; have hb5 : Below w.heap.size w w5 := hd2.trans (hb5c.mono hd2.size); have hx5 := HQ2.out w5 ((((Below.refl w2.heap.size w2).alloc (Nat.le_refl _) _).drew).trans (hb5c.mono (by simp))))
      | (go_simp; go_at_call 88; refine (HKP.out A5 c5 w5 hb5 hrow5).mono ?_; rintro e w6 ⟨rfl, hs6⟩; have HS6 := Lib.hid hs6; clear hs6))
    all_goals
      go_wp2_with fail
      go_ret
      exact ⟨rfl, HS6.out⟩
end Go.Proofs.YtkmljbbnpjlehaaDoor
namespace Go.Proofs.YtkmljbbnpjlehaaDoor
set_option maxRecDepth 8000
open Go.RowKit

set_option maxHeartbeats 1600000 in
theorem replace_any (F : Nat → Prop) (w : World) (P L : Nat) (d : Dk.D) (l : Wl.L) (A : Option Addr) (c n : Nat) (all : List (List UInt8)) (hH : Hs w) (h : SY F w P L d l) (hnH : ¬ F 0) (hst : d.st = []) (h4 : 4 ≤ d.n) (hg : l.gen ≤ 262143) (ha : l.area ≤ 1)
    (hb : LC w w.heap.size A all) (hn : all.length = n) (hnc : n ≤ c) (hc : c ≤ 9223372036854775807) (ht : Fr.okTotal all ≤ 16384) (hq : ∀ b ∈ all, b.length ≤ 9223372036854775807) :
    Calls Tryd.prog 66 #[.pointer (some ⟨L, 0, none⟩), .slice A n c] w (SyPost F w P L (Wl.replace d l all)) := by
  have HSY := Lib.hid h
  obtain ⟨G, m, rfl, rfl, hG, hL, hm, hGF⟩ := h
  obtain ⟨R, hR⟩ : ∃ R, R = Wl.replace d l all := ⟨_, rfl⟩
  have HR := Lib.hid hR
  rw [← hR]
  clear hR
  have HPU := Lib.hid (frOk.all A c n all w hH hn hb hnc hc (by omega) hq)
  have HMM := Lib.hid (And.intro hG (And.intro hL (And.intro hm hGF)))
  have HH := Lib.hid hH
  clear hG hL hm hGF hH hb hq
  cases hput : Fr.all all with
  | error k =>
    have hk : k ≠ 0 := by rcases Fr.all_err hput with rfl | rfl <;> omega
    have HE : Hid (R = ((k : Int), d, l)) := Lib.hid (by rw [HR.out]; unfold Wl.replace; rw [hput])
    rw [hput] at HPU
    have hkI : ((k : Int) != 0) = true := by simp; omega
    clear hput
    go_enter Tryd.func66, Tryd.ntmps66
    go_wp2_with fail
    refine HPU.out.mono ?_
    rintro _ w2 ⟨hb2, rfl⟩
    go_wp2_with fail
    go_ret
    rw [HE.out]
    exact sy_same HSY.out hb2 k
  | ok f =>
    have hf := Fr.ok_of_all hput
    have hfl : f.length ≤ 16384 := by
      rw [hf.2, Fr.frames_total]
      have h1 := Fr.okTotal_take all all.length (by rw [List.take_length]; exact hf.1)
      rw [List.take_length] at h1
      omega
    have HE : Hid (R = Wl.keep d l (1 - l.area) 0 f) := Lib.hid (by rw [HR.out]; unfold Wl.replace; rw [hput])
    rw [hput] at HPU
    obtain ⟨fl, hfl2⟩ : ∃ fl, fl = f.length := ⟨_, rfl⟩
    have HFL := Lib.hid (And.intro hfl hfl2)
    have hLlt : m.L < w.heap.size := HMM.out.2.1.lt _ ((mem_LF m _).2 (.inl rfl))
    obtain ⟨ar, har⟩ : ∃ ar, ar = l.area := ⟨_, rfl⟩
    have HAR := Lib.hid har
    have hwa : IntKind.i64.wrap (1 - (ar : Int)) = 1 - (ar : Int) := IntWalk.i64_in _ (by omega)
    clear hput hf hfl
    go_enter Tryd.func66, Tryd.ntmps66
    go_wp2_with fail
    refine HPU.out.mono ?_
    rintro _ w2 ⟨hb2, A2, c2, rfl, hrow2⟩
    rw [← hfl2]
    have hL2 := HMM.out.2.1.keep hb2
    obtain ⟨p0, p1, p2, p3⟩ := hL2.c
    rw [← har] at p2 ha
    have HKP : Hid (Calls Tryd.prog 88 #[.pointer (some ⟨m.L, 0, none⟩), .int .i64 (1 - (ar : Int)), .int .i64 0, .slice A2 fl c2] w2 (SyPost F w m.P m.L R)) := Lib.hid (by
      have hcap := row_cap hrow2
      have hAx : (0 < fl → ∃ g, A2 = some ⟨g, 0, none⟩) ∧ (A2 = none → c2 = 0) ∧ ∀ x ∈ blkOf A2, w.heap.size ≤ x ∧ x < w2.heap.size := by
        rcases hrow2.2 with ⟨hv, h0⟩ | ⟨g5, cap5, cur, hv, hbs, hgg, _⟩
        · injection hv with e1 e2 e3
          subst e1 e3
          exact ⟨fun h => by omega, fun _ => rfl, fun x hx => by simp [blkOf] at hx⟩
        · injection hv with e1 e2 e3
          subst e1 e3
          exact ⟨fun _ => ⟨g5, rfl⟩, (fun h => (by cases h)), (fun x hx => (by simp [blkOf] at hx; subst hx; exact ⟨hbs, (Array.getElem?_eq_some_iff.1 hgg).1⟩))⟩
      obtain ⟨hA1, hA2, hA3⟩ := hAx
      obtain ⟨bb, oo, hbo⟩ : ∃ bb oo, 0 < fl → A2 = some ⟨bb, oo, none⟩ := by
        by_cases h0 : 0 < fl
        · obtain ⟨g, hg⟩ := hA1 h0
          exact ⟨g, 0, fun _ => hg⟩
        · exact ⟨0, 0, fun h => absurd h h0⟩
      have hk := keep_any G w2 m l d (1 - ar) 0 fl c2 bb oo A2 f (HH.out.next hb2) (HMM.out.1.keep hb2) (fun x hx => by have := (HMM.out.2.2.2 x hx).2; have := hb2.size; omega) hL2 (fun x hx => (HMM.out.2.2.1 x hx).1) hst h4 (by omega) hg (row_cells hrow2) hfl2.symm hbo hA2 (by rw [hfl2]; exact hcap.1) hcap.2 (fun x hx hg => by have := (HMM.out.2.2.2 x hg).2; have := (hA3 x hx).1; omega) (fun x hx => (hA3 x hx).2) (by omega) (by have := HFL.out; omega) (fun hx => hnH (HMM.out.2.2.2 _ hx).1)
      rw [show (1 - (ar : Int)) = ((1 - ar : Nat) : Int) by omega]
      have he : R = Wl.keep d l (1 - ar) 0 f := by rw [HE.out, HAR.out]
      rw [he]
      exact hk.mono (fun e w6 hk => sy_keep HMM.out.2.2.2 HMM.out.2.2.1 HMM.out.2.1.lt hb2 hA3 hk))
    clear hfl2 har hrow2 HPU HE HR HFL hL2
    go_wp2_with fail
    refine HKP.out.mono ?_
    rintro e w6 ⟨rfl, hs6⟩
    have HS6 := Lib.hid hs6
    clear hs6
    go_wp2_with fail
    go_ret
    exact ⟨rfl, HS6.out⟩
end Go.Proofs.YtkmljbbnpjlehaaDoor
