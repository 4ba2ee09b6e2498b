/- Append of package wal, for any log on a disk on which nothing is staged. The statements' steps on a log and its disk: New and Open, Open anew, Stop, Crash, Faults, what the log tells. No condition. -/
import Derived.Test.YtfceljbmdcbciaaDoorMg35
import Derived.Test.YtfceljbmdcbciaaDoorMg12
namespace Go.Proofs.YtfceljbmdcbciaaDoor
set_option maxRecDepth 8000
open Go.RowKit

theorem keep_area (d : Dk.D) (l : Wl.L) (frm : Nat) (fr : List UInt8) : (Wl.keep d l l.area frm fr).2.2.area = l.area := by
  unfold Wl.keep
  split
  · rfl
  · dsimp only
    split <;> rfl
theorem append_area (d : Dk.D) (l : Wl.L) (b : List UInt8) : (Wl.append d l b).2.2.area = l.area := by
  unfold Wl.append
  split
  · rfl
  · exact keep_area _ _ _ _

set_option maxHeartbeats 12800000 in
theorem append_any (F : Nat → Prop) (w : World) (P L : Nat) (d : Dk.D) (l : Wl.L) (A : Option Addr) (c n : Nat) (b : List UInt8) (hH : Hs w) (h : SY F w P L d l) (hnH : ¬ F 0) (hst : d.st = []) (h4 : 4 ≤ d.n) (hg : l.gen ≤ 262143) (ha : l.area ≤ 1) (hu : l.fr.length ≤ 8191)
    (hb : BCells w w.heap.size A b) (hn : b.length = n) (hnc : n ≤ c) (hc : c ≤ 9223372036854775807) :
    Calls Tryd.prog 35 #[.pointer (some ⟨L, 0, none⟩), .slice A n c] w (SyPost F w P L (Wl.append d l b)) := by
  have HSY := Lib.hid h
  obtain ⟨G, m, rfl, rfl, hG, hL, hm, hGF⟩ := h
  obtain ⟨R, hR⟩ : ∃ R, R = Wl.append d l b := ⟨_, rfl⟩
  have HR := Lib.hid hR
  rw [← hR]
  clear hR
  have HPU := Lib.hid (frOk.put A c n b w hH hn hb hnc hc)
  have HMM := Lib.hid (And.intro hG (And.intro hL (And.intro hm hGF)))
  have HH := Lib.hid hH
  clear hG hL hm hGF hH hb
  cases hput : Fr.put b with
  | error k =>
    have hk : k ≠ 0 := by
      unfold Fr.put at hput
      split at hput
      · injection hput with hput; omega
      · split at hput
        · injection hput with hput; omega
        · cases hput
    have HE : Hid (R = ((k : Int), d, l)) := Lib.hid (by rw [HR.out]; unfold Wl.append; rw [hput])
    rw [hput] at HPU
    have hkI : ((k : Int) != 0) = true := by simp; omega
    clear hput
    go_enter Tryd.func35, Tryd.ntmps35
    go_wp2_with fail
    refine HPU.out.mono ?_
    rintro _ w2 ⟨hb2, rfl⟩
    go_wp2_with fail
    go_ret
    rw [HE.out]
    exact sy_same HSY.out hb2 k
  | ok f =>
    have hf : f = Fr.frame b ∧ b.length ≤ 4000 := by
      unfold Fr.put at hput
      split at hput
      · cases hput
      · split at hput
        · cases hput
        · injection hput with hput
          exact ⟨hput.symm, by omega⟩
    have hfl : f.length = 6 + b.length := by rw [hf.1, Fr.frame_len]
    have HE : Hid (R = Wl.keep d l l.area (l.fr.length / 32) (l.fr ++ f)) := Lib.hid (by rw [HR.out]; unfold Wl.append; rw [hput])
    rw [hput] at HPU
    have HFL := Lib.hid (And.intro hfl hf.2)
    obtain ⟨fl, hfl2⟩ : ∃ fl, fl = f.length := ⟨_, rfl⟩
    obtain ⟨u, hu2⟩ : ∃ u, u = l.fr.length := ⟨_, rfl⟩
    have HUL := Lib.hid (And.intro hu2 hfl2)
    have hLlt : m.L < w.heap.size := HMM.out.2.1.lt _ ((mem_LF m _).2 (.inl rfl))
    clear hput hf hfl
    go_enter Tryd.func35, Tryd.ntmps35
    go_wp2_with fail
    refine HPU.out.mono ?_
    rintro _ w2 ⟨hb2, A2, c2, rfl, hrow2⟩
    rw [← hfl2] at hrow2 ⊢
    have hL2 := HMM.out.2.1.keep hb2
    obtain ⟨p0, p1, p2, p3⟩ := hL2.c
    have HUS := Lib.hid (fun (w' : World) (hb' : Below w.heap.size w w') => used_any w' m l (HMM.out.2.1.keep hb'))
    rw [← hu2] at p3 HUS hu
    clear hfl2 hu2
    have hd1 : Below w.heap.size w w2.drew := hb2.drew
    have hd2 : Below w.heap.size w (w2.alloc (.cells #[.slice m.A u m.c, .slice A2 fl c2] 36)).drew := (hb2.alloc hb2.size _).drew
    have HCO : Hid (Calls Tryd.prog 71 #[.slice (some ⟨w2.heap.size, 0, none⟩) 2 2] (w2.alloc (.cells #[.slice m.A u m.c, .slice A2 fl c2] 36)).drew (OwnPost (w2.alloc (.cells #[.slice m.A u m.c, .slice A2 fl c2] 36)).drew (u + fl) (l.fr ++ f))) := Lib.hid (by
      have hba : Below w2.heap.size w2 (w2.alloc (.cells #[.slice m.A u m.c, .slice A2 fl c2] 36)).drew := ((Below.refl _ _).alloc (Nat.le_refl _) _).drew
      exact concat_any _ _ m.c u c2 fl m.A A2 l.fr f (heap_alloc_new w2 _) (hL2.keep hba).fr HUL.out.1.symm (row_cells (own_below hrow2 hba)) HUL.out.2.symm (by have := HFL.out.1; have := HUL.out.2; omega) (by have := HFL.out; have := HUL.out.2; omega))
    have HKP : Hid (∀ (A5 : Option Addr) (c5 : Nat) (w5 : World), Below w.heap.size w w5 → Row (w2.alloc (.cells #[.slice m.A u m.c, .slice A2 fl c2] 36)).drew.heap.size w5 (.slice A5 (u + fl) c5) (l.fr ++ f) → Calls Tryd.prog 70 #[.pointer (some ⟨m.L, 0, none⟩), .int .i64 (l.area : Int), .int .i64 ((u : Int) / 32), .slice A5 (u + fl) c5] w5 (SyPost F w m.P m.L R)) := Lib.hid (fun A5 c5 w5 hb5 hrow5 => by
      have hbz := hd2.size
      have hlen : (l.fr ++ f).length = u + fl := by rw [List.length_append, ← HUL.out.1, ← HUL.out.2]
      have hcap : u + fl ≤ c5 ∧ c5 ≤ 9223372036854775807 := by
        have h := hrow5
        rw [← hlen] at h ⊢
        exact row_cap h
      obtain ⟨g5, cap5, hv5, hg5, hg5l⟩ := World.ownsRow.form hrow5 (by have := HFL.out.1; have := HUL.out.2; omega)
      injection hv5 with e1 e2 e3
      subst e1 e3
      have hAg : ∀ x ∈ blkOf (some (⟨g5, 0, none⟩ : Addr)), w.heap.size ≤ x ∧ x < w5.heap.size := fun x hx => by
        simp [blkOf] at hx
        omega
      have hk := keep_any G w5 m l d l.area (u / 32) (u + fl) c5 g5 0 (some ⟨g5, 0, none⟩) (l.fr ++ f) (HH.out.next hb5) (HMM.out.1.keep hb5) (fun x hx => by have := (HMM.out.2.2.2 x hx).2; have := hb5.size; omega) (HMM.out.2.1.keep hb5) (fun x hx => (HMM.out.2.2.1 x hx).1) hst h4 ha hg (row_cells hrow5) hlen (fun _ => rfl) (fun h => by cases h) hcap.1 hcap.2 (fun x hx hg => by have := (HMM.out.2.2.2 x hg).2; have := (hAg x hx).1; omega) (fun x hx => (hAg x hx).2) (by omega) (by have := HFL.out; have := HUL.out.2; omega) (fun hx => hnH (HMM.out.2.2.2 _ hx).1)
      rw [show ((u : Int) / 32) = ((u / 32 : Nat) : Int) by omega]
      have he : R = Wl.keep d l l.area (u / 32) (l.fr ++ f) := by rw [HE.out, HUL.out.1]
      rw [he]
      exact hk.mono (fun e w6 hk => sy_keep HMM.out.2.2.2 HMM.out.2.2.1 HMM.out.2.1.lt hb5 hAg hk))
    have q2 : ∀ w', Below w2.heap.size w2 w' → w'.cell? ⟨m.L, 2, none⟩ = some (.int .i64 (l.area : Int)) := fun w' hb' => (hL2.keep hb').c.2.2.1
    have HQ2 := Lib.hid q2
    clear q2
    go_wp2_with fail
    clear HR HPU HE HUL HFL
    have hqa : (w2.alloc (.cells #[.slice m.A u m.c, .slice A2 fl c2] 36)).cell? ⟨m.L, 2, none⟩ = some (.int .i64 (l.area : Int)) := HQ2.out _ ((Below.refl _ _).alloc (Nat.le_refl _) _)
    have hLlt2 : m.L < w2.heap.size := Nat.lt_of_lt_of_le hLlt hb2.size
    have hwu : IntKind.i64.wrap ((u : Int) / 32) = (u : Int) / 32 := IntWalk.i64_in _ (by omega)
    go_region_law (first
      | (go_simp; go_at_call 36; refine (HUS.out _ (by first | with_reducible exact hd1 | with_reducible exact hd2)).mono ?_; rintro e w' ⟨rfl, rfl⟩)
      | (go_simp; go_at_call 71; refine HCO.out.mono ?_; rintro e w5 ⟨A5, c5, rfl, hrow5, hb5c⟩; have hb5 : Below w.heap.size w w5 := hd2.trans (hb5c.mono hd2.size); have hx5 := HQ2.out w5 ((((Below.refl w2.heap.size w2).alloc (Nat.le_refl _) _).drew).trans (hb5c.mono (by simp))))
      | (go_simp; go_at_call 70; refine (HKP.out A5 c5 w5 hb5 hrow5).mono ?_; rintro e w6 ⟨rfl, hs6⟩; have HS6 := Lib.hid hs6; clear hs6))
    all_goals
      go_wp2_with fail
      go_ret
      exact ⟨rfl, HS6.out⟩
end Go.Proofs.YtfceljbmdcbciaaDoor
namespace Go.Proofs.YtfceljbmdcbciaaDoor
set_option maxRecDepth 8000
open Go.RowKit

theorem sy_new {w w1 w2 : World} {e : Ending} {d : Dk.D} {P : Nat} {l : Wl.L} (hd : SD w.heap.size w1 P d) (hb1 : Below w.heap.size w w1) (ho : OpenPost w1 P (.ok l) e w2) :
    ∃ L, e = .returned (.tuple #[.pointer (some ⟨L, 0, none⟩), .int .i64 0]) ∧ SY (fun x => w.heap.size ≤ x ∧ x < w2.heap.size) w2 P L d l ∧ Below w.heap.size w w2 := by
  obtain ⟨hb, m, hP, he, hl, hF⟩ := ho
  have hz1 := hb1.size
  have hz := hb.size
  refine ⟨m.L, he, ⟨fun x => w.heap.size ≤ x ∧ x < w1.heap.size, m, rfl, hP, hd.hd.keep hb, hl, fun x hx => ⟨fun h => by have := hF x hx; omega, by have := hF x hx; omega, hl.lt x hx⟩, fun x hx => ⟨⟨hx.1, by omega⟩, by omega⟩⟩, hb1.trans (hb.mono hz1)⟩
theorem sy_open {F : Nat → Prop} {w w2 : World} {e : Ending} {d : Dk.D} {P L : Nat} {l0 l : Wl.L} (h : SY F w P L d l0) (ho : OpenPost w P (.ok l) e w2) :
    ∃ L', e = .returned (.tuple #[.pointer (some ⟨L', 0, none⟩), .int .i64 0]) ∧ SY (Or F w.heap.size w2.heap.size) w2 P L' d l ∧ Below w.heap.size w w2 := by
  obtain ⟨hb, m, hP, he, hl, hF⟩ := ho
  obtain ⟨G, m0, h1, h2, h3, h4, h5, h6⟩ := h
  have hz := hb.size
  refine ⟨m.L, he, ⟨G, m, rfl, hP, h3.keep hb, hl, fun x hx => ⟨fun hg => by have := hF x hx; have := (h6 x hg).2; omega, .inr ⟨hF x hx, hl.lt x hx⟩⟩, fun x hx => ⟨.inl (h6 x hx).1, by have := (h6 x hx).2; omega⟩⟩, hb⟩
section
variable {F : Nat → Prop} {w : World} {P L : Nat} {d : Dk.D} {l : Wl.L}
theorem stop_sy (h : SY F w P L d l) (n : Int) (hn : I64 n) : Calls Tryd.prog 26 #[.pointer (some ⟨P, 0, none⟩), .int .i64 n] w fun e w' => e = .returned (.tuple #[]) ∧ SY (Or F w.heap.size w'.heap.size) w' P L (d.stop n) l ∧ OutP F w w' := by
  obtain ⟨G, m, h1, h2, h3, h4⟩ := h
  refine (stop_hd h3 n hn).mono ?_
  rintro e w' ⟨rfl, h7, h8⟩
  have hs : SY F w P L d l := ⟨G, m, h1, h2, h3, h4⟩
  refine ⟨rfl, ?_⟩
  obtain ⟨h5, h6⟩ := h4.2
  have hz := h8.size
  refine ⟨⟨Or G w.heap.size w'.heap.size, m, h1, h2, h7, h4.1.same (fun x hx => h8.block x (h4.1.lt x hx) (h5 x hx).1) hz, fun x hx => ⟨fun hor => hor.elim (h5 x hx).1 (fun h => by have := h4.1.lt x hx; omega), .inl (h5 x hx).2⟩, fun x hx => ?_⟩, h8.mono (fun x hx => (h6 x hx).1)⟩
  rcases hx with hx | hx
  · exact ⟨.inl (h6 x hx).1, by have := (h6 x hx).2; omega⟩
  · exact ⟨.inr hx, hx.2⟩
theorem crash_sy (h : SY F w P L d l) (hst : d.st.length ≤ 1048576) (A : Option Addr) (cap : Nat) (b : List UInt8) (hl : b.length ≤ 9223372036854775807) (hA : BIn w A b) (hF : 0 < b.length → ∀ ad, A = some ad → ¬ F ad.block) :
    Calls Tryd.prog 28 #[.pointer (some ⟨P, 0, none⟩), .slice A b.length cap] w fun e w' => e = .returned (.tuple #[]) ∧ SY (Or F w.heap.size w'.heap.size) w' P L (d.crash b) l ∧ OutP F w w' := by
  obtain ⟨G, m, h1, h2, h3, h4⟩ := h
  obtain ⟨h5, h6⟩ := h4.2
  refine (crash_hd h3 hst A cap b hl hA (fun hn ad e hg => hF hn ad e (h6 _ hg).1)).mono ?_
  rintro e w' ⟨rfl, h7, h8⟩
  have hz := h8.size
  refine ⟨rfl, ⟨Or G w.heap.size w'.heap.size, m, h1, h2, h7, h4.1.same (fun x hx => h8.block x (h4.1.lt x hx) (h5 x hx).1) hz, fun x hx => ⟨fun hor => hor.elim (h5 x hx).1 (fun h => by have := h4.1.lt x hx; omega), .inl (h5 x hx).2⟩, fun x hx => ?_⟩, h8.mono (fun x hx => (h6 x hx).1)⟩
  rcases hx with hx | hx
  · exact ⟨.inl (h6 x hx).1, by have := (h6 x hx).2; omega⟩
  · exact ⟨.inr hx, hx.2⟩
theorem open_sy (h : SY F w P L d l) (hH : Hs w) (hst : d.st = []) {c n : Nat} {l' : Wl.L} (hn : d.n = n) (hi : Wl.Inv c n d.kept l') :
    Calls Tryd.prog 12 #[.pointer (some ⟨P, 0, none⟩)] w fun e w' => ∃ L', e = .returned (.tuple #[.pointer (some ⟨L', 0, none⟩), .int .i64 0]) ∧ SY (Or F w.heap.size w'.heap.size) w' P L' d l' ∧ Below w.heap.size w w' := by
  refine (walOpen_any w P d hH h.hd.sd hst).mono ?_
  intro e w' ho
  rw [hn, hi.openK] at ho
  exact sy_open h ho
theorem records_sy (h : SY F w P L d l) (hH : Hs w) (hl : l.fr.length ≤ 16777216) : Calls Tryd.prog 40 #[.pointer (some ⟨L, 0, none⟩)] w (RecPost (Wl.rds l) w) := by
  obtain ⟨m, rfl, _, hm⟩ := h.at
  exact records_any w m l hH hm hl
theorem used_sy (h : SY F w P L d l) : Calls Tryd.prog 36 #[.pointer (some ⟨L, 0, none⟩)] w fun e w' => e = .returned (.int .i64 (l.fr.length : Int)) ∧ w = w' := by
  obtain ⟨m, rfl, _, hm⟩ := h.at
  exact used_any w m l hm
theorem gen_sy (h : SY F w P L d l) : Calls Tryd.prog 38 #[.pointer (some ⟨L, 0, none⟩)] w fun e w' => e = .returned (.int .i64 (l.gen : Int)) ∧ w = w' := by
  obtain ⟨m, rfl, _, hm⟩ := h.at
  exact gen_any w m l hm
theorem room_sy (h : SY F w P L d l) (h2 : 2 ≤ d.n) (hu : l.fr.length ≤ Wl.areaBytes d.n) : Calls Tryd.prog 37 #[.pointer (some ⟨L, 0, none⟩)] w fun e w' => e = .returned (.int .i64 (Wl.areaBytes d.n - l.fr.length : Int)) ∧ w = w' := by
  obtain ⟨m, rfl, rfl, hm⟩ := h.at
  exact room_any w m l d hm h.hd.sd h2 hu
end
end Go.Proofs.YtfceljbmdcbciaaDoor
