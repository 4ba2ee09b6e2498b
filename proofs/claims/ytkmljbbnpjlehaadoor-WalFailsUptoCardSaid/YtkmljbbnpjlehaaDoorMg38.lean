/- A new disk and a log on it, and what is done to them, as the statements' walked leaves them. Condition: the table of sums reads as its text lays it. What is found behind an Append or a Replace and a crash, plain. No program stands in it. No condition. -/
import Derived.Test.YtkmljbbnpjlehaaDoorMg34
import Derived.Test.YtkmljbbnpjlehaaDoorMg35
import Derived.Test.YtkmljbbnpjlehaaDoorMg37
namespace Go.Proofs.YtkmljbbnpjlehaaDoor
set_option maxRecDepth 8000
open Go.RowKit

set_option maxHeartbeats 3200000 in
theorem walked_any (w : World) (hH : Hs w) (hz : 0 < w.heap.size) (nn : Nat) (h4 : 4 ≤ nn) (h30 : nn ≤ 512) (A : Option Addr) (cap : Nat) (l : List Wl.O) (h : WosIn w w.heap.size A l) (hl : l.length ≤ 1048576) (hf : ∀ o ∈ l, Fr.few o.l = true) :
    Calls Tryd.prog 32 #[.int .i64 (nn : Int), .slice A l.length cap] w fun e w' => ∃ P L, e = .returned (.tuple #[.pointer (some ⟨P, 0, none⟩), .pointer (some ⟨L, 0, none⟩)]) ∧ SZ w.heap.size [] w' P L (Wl.walkP nn l).1 (Wl.walkP nn l).2 ∧ Below w.heap.size w w' := by
  obtain ⟨hn, hk, hst, hfr⟩ := dk_new nn h30
  have hinv : Wl.Inv 0 nn (Dk.new (nn : Int)).kept ⟨0, 0, []⟩ := by rw [hk]; exact Wl.inv_new 0 h4 h30
  have HGD : Hid (∀ k, Wl.Good 0 nn (Wl.walkP nn (l.take k))) := Lib.hid (fun k => Wl.walk_good (by decide) _ _ ⟨hinv, hn, hst, hfr⟩)
  have HNEW := Lib.hid (new_any w (nn : Int))
  obtain ⟨dn, hdn⟩ : ∃ dn, dn = Dk.new (nn : Int) := ⟨_, rfl⟩
  have HW0 : Hid (Wl.walkP nn (l.take 0) = (dn, ⟨0, 0, []⟩)) := Lib.hid (by rw [hdn]; rfl)
  have HWN : Hid (Wl.walkP nn (l.take l.length) = Wl.walkP nn l) := Lib.hid (by rw [List.take_length])
  rw [← hdn] at HNEW hinv hn hst
  obtain ⟨n, hnl⟩ : ∃ n, n = l.length := ⟨_, rfl⟩
  rw [← hnl] at HWN hl ⊢
  have HNL := Lib.hid hnl
  have HH := Lib.hid hH
  have HI := Lib.hid hinv
  have HN := Lib.hid hn
  have HST := Lib.hid hst
  have HO := Lib.hid h
  have HF := Lib.hid hf
  clear hinv hdn hH hn hst hk hfr hnl h hf
  go_enter Tryd.func32, Tryd.ntmps32
  go_wp2_with fail
  refine HNEW.out.mono ?_
  intro e w1 hmade
  obtain ⟨P, rfl, hsd, hb1⟩ := hmade.sd
  have HOP := Lib.hid (walOpen_any w1 P dn (HH.out.next hb1) (hsd.base (Nat.zero_le _)) HST.out)
  rw [HN.out, HI.out.openK] at HOP
  have HSD := Lib.hid hsd
  have HB1 := Lib.hid hb1
  clear hsd hb1 hmade HNEW
  go_wp2_with fail
  refine HOP.out.mono ?_
  intro e w2 hop
  obtain ⟨L, rfl, hsy, hb2⟩ := sy_new HSD.out HB1.out hop
  have HSY : Hid (SZ w.heap.size [] w2 P L dn ⟨0, 0, []⟩) := Lib.hid ⟨_, hsy, fun x hx => hx, fun x hx => by cases hx⟩
  have HB2 := Lib.hid hb2
  clear hsy hb2 hop HOP HSD HB1
  go_wp2_with fail
  go_loopw [9] (fun iv wr => ∃ k : Nat, k ≤ n ∧ iv = .int .i64 (k : Int) ∧ SZ w.heap.size [] wr P L (Wl.walkP nn (l.take k)).1 (Wl.walkP nn (l.take k)).2 ∧ Below w.heap.size w wr) (fun iv _ => n - (intOf iv).toNat)
  case atStart => exact ⟨0, Nat.zero_le _, rfl, by rw [HW0.out]; exact HSY.out, HB2.out⟩
  case round =>
    obtain ⟨k, hk, rfl, hsz, hb⟩ := hrel
    by_cases hlt : k < n
    · have hkl : k < l.length := by have := HNL.out; omega
      obtain ⟨bb, off, rfl, hbl, hc⟩ := (HO.out.keep hb) (by omega)
      obtain ⟨m, hm, hin⟩ := hc k hkl
      have HSN := Lib.hid (Wl.walk_take (n := nn) hkl)
      have hgd := HGD.out k
      have hfo := HF.out l[k] (List.getElem_mem hkl)
      obtain ⟨o, ho⟩ : ∃ o, o = l[k] := ⟨_, rfl⟩
      rw [← ho] at hm hin HSN hfo
      obtain ⟨s, hs⟩ : ∃ s, s = Wl.walkP nn (l.take k) := ⟨_, rfl⟩
      rw [← hs] at hsz HSN hgd
      obtain ⟨d, lg⟩ := s
      obtain ⟨ox, oi, ob, ol, op⟩ := o
      obtain ⟨mA, mcA, mL, mcL, mG, mcG⟩ := m
      unfold woCells at hm
      dsimp only at hm hsz hfo
      have hrg : wr.rangeAt bb (off + k * 5) [.int .i64 ox, .int .i64 oi, .slice mA ob.length mcA, .slice mL ol.length mcL, .slice mG op.length mcG] := fun j v hv => by rw [Nat.add_assoc]; exact hm j v hv
      have q0 := hm 0 _ rfl
      rw [← Nat.add_assoc, Nat.add_zero] at q0
      have HSZ := Lib.hid hsz
      have HGK := Lib.hid hgd
      have HIN := Lib.hid hin
      have HB := Lib.hid hb
      have HRG := Lib.hid hrg
      have hk0 : (0 : Int) ≤ (k : Int) := by omega
      have hkI : (k : Int) < (n : Int) := by omega
      have hbz := hb.size
      by_cases h1 : ox = 1
      · subst h1
        have HDO := Lib.hid (do_append HSZ.out hbz (HH.out.next (HB.out)) hz HGK.out.st HGK.out.dn HGK.out.inv oi mA mL mG mcA ob.length ol.length mcL op.length mcG ob HIN.out.b rfl HIN.out.cb.1 HIN.out.cb.2)
        clear ho hs hkl hc hm hin hsz hgd hb hfo
        go_wp2_with ((with_reducible refine wpList_load_mid (op := ⟨some 48, _, _, _, _, _⟩) rfl 40 _ rfl bb (off + k * 5) ?_ [.int .i64 1, .int .i64 oi, .slice mA ob.length mcA, .slice mL ol.length mcL, .slice mG op.length mcG] _ hrg Tryd.underlying40 rfl (by kernel_rfl) ?_); exact rfl)
        refine HDO.out.mono ?_
        rintro _ w3 ⟨rfl, g1, _, g3⟩
        go_wp2_with fail
        go_roundw
        case rel =>
          have e : Wl.stepP (d, lg) ⟨1, oi, ob, ol, op⟩ = (Wl.append d lg ob).2 := if_pos rfl
          exact ⟨k + 1, by omega, by go_num, by rw [HSN.out, e]; exact g1, HB.out.trans g3⟩
        case measure => simp [intOf]; omega
      · by_cases h2 : ox = 2
        · subst h2
          have HDO := Lib.hid (do_replace HSZ.out hbz (HH.out.next (HB.out)) hz HGK.out.st HGK.out.dn HGK.out.inv oi mA mL mG ob.length mcA ol.length mcL op.length mcG ol HIN.out.l rfl HIN.out.cl.1 HIN.out.cl.2 (Nat.le_trans (Fr.okTotal_few hfo) (by decide)) HIN.out.lq)
          clear h1 ho hs hkl hc hm hin hsz hgd hb hfo
          go_wp2_with ((with_reducible refine wpList_load_mid (op := ⟨some 48, _, _, _, _, _⟩) rfl 40 _ rfl bb (off + k * 5) ?_ [.int .i64 2, .int .i64 oi, .slice mA ob.length mcA, .slice mL ol.length mcL, .slice mG op.length mcG] _ hrg Tryd.underlying40 rfl (by kernel_rfl) ?_); exact rfl)
          refine HDO.out.mono ?_
          rintro _ w3 ⟨rfl, g1, _, g3⟩
          go_wp2_with fail
          go_roundw
          case rel =>
            have e : Wl.stepP (d, lg) ⟨2, oi, ob, ol, op⟩ = (Wl.replace d lg ol).2 := by unfold Wl.stepP; rw [if_neg (by show ¬ (2 : Int) = 1; decide), if_pos rfl]
            exact ⟨k + 1, by omega, by go_num, by rw [HSN.out, e]; exact g1, HB.out.trans g3⟩
          case measure => simp [intOf]; omega
        · have hE : Hid (Wl.stepP (d, lg) ⟨ox, oi, ob, ol, op⟩ = (d, lg)) := Lib.hid (by unfold Wl.stepP; rw [if_neg h1, if_neg h2])
          have i1 : (ox == 1) = false := by simpa using h1
          have i2 : (ox == 2) = false := by simpa using h2
          clear ho hs hkl hc hm hin hsz hgd hb hfo hrg
          go_wp2_with fail
          go_roundw
          case rel => exact ⟨k + 1, by omega, by go_num, by rw [HSN.out, hE.out]; exact HSZ.out, HB.out⟩
          case measure => simp [intOf]; omega
    · have hkI : ¬ (k : Int) < (n : Int) := by omega
      have hkn : k = n := by omega
      subst hkn
      have HS := Lib.hid hsz
      have HB := Lib.hid hb
      clear hsz hb
      go_wp2_with fail
      go_ret2
      exact ⟨P, L, rfl, by rw [← HWN.out]; exact HS.out, HB.out⟩
end Go.Proofs.YtkmljbbnpjlehaaDoor
namespace Go.Proofs.YtkmljbbnpjlehaaDoor
set_option maxRecDepth 8000
namespace Wl
open Dk (D)

/-- Behind a crash the log is as it was, or as it would be. -/
structure Found (c n : Nat) (kept : Bytes) (cn : Nat) (was after : List Bytes) (e : Int) (l' : L) : Prop where
  inv : Inv c n kept l'
  dn : cn = n
  told : (e = 0 ∧ rds l' = after) ∨ (e ≠ 0 ∧ e ≠ 21 ∧ rds l' = was) ∨ (e = 21 ∧ (rds l' = was ∨ rds l' = after))
theorem Kept.crash {c n : Nat} {d : D} {l : L} {after : List Bytes} {r : Int × D × L} (hk : Kept c n d l after r) (hi : Inv c n d.kept l) (hst : d.st = []) (hn : d.n = n) {cuts : Bytes} (hc : Dk.cutAt cuts 0 = c) :
    ∃ l', Found c n (r.2.1.crash cuts).kept (r.2.1.crash cuts).n (rds l) after r.1 l' := by
  rcases hk.kinds with h0 | h5 | h21
  · obtain ⟨g1, g2, g3, g4⟩ := hk.done h0
    exact ⟨r.2.2, by rw [crash_nil g2]; exact g1, g3, .inl ⟨h0, g4⟩⟩
  · obtain ⟨g1, g2⟩ := hk.full h5
    exact ⟨l, by rw [g1, crash_nil hst]; exact hi, by rw [g1]; exact hn, .inr (.inl ⟨by rw [h5]; decide, by rw [h5]; decide, rfl⟩)⟩
  · obtain ⟨_, g2, _, g4⟩ := hk.bad h21
    obtain ⟨l', g5, g6⟩ := g4 cuts hc
    exact ⟨l', g5, g2, .inr (.inr ⟨h21, g6⟩)⟩
/-- A Stop, an Append, a crash. -/
theorem Good.append_crash {n : Nat} {d : D} {l : L} {cuts : Bytes} (h : Good (Dk.cutAt cuts 0) n (d, l)) (s : Nat) (b : Bytes) :
    ∃ l', Found (Dk.cutAt cuts 0) n ((append (d.stop (s : Int)) l b).2.1.crash cuts).kept ((append (d.stop (s : Int)) l b).2.1.crash cuts).n (rds l) (rds l ++ [b]) (append (d.stop (s : Int)) l b).1 l' := by
  have hd : (d.stop (s : Int)).kept = d.kept ∧ (d.stop (s : Int)).n = d.n ∧ (d.stop (s : Int)).st = d.st := by
    unfold Dk.D.stop
    by_cases hl : d.left = 0
    · rw [if_pos hl]; exact ⟨rfl, rfl, rfl⟩
    · rw [if_neg hl]; exact ⟨rfl, rfl, rfl⟩
  have hst : (d.stop (s : Int)).st = [] := hd.2.2.trans h.st
  have hn : (d.stop (s : Int)).n = n := hd.2.1.trans h.dn
  have hi : Inv (Dk.cutAt cuts 0) n (d.stop (s : Int)).kept l := by rw [hd.1]; exact h.inv
  rcases hi.append (cut_le cuts 0) hn hst b with ⟨e, he, hr⟩ | hk
  · rw [hr]
    exact ⟨l, by rw [crash_nil hst]; exact hi, hn, .inr (.inl ⟨by dsimp only; omega, by dsimp only; omega, rfl⟩)⟩
  · exact hk.crash hi hst hn rfl
/-- A Stop, a Replace, a crash. -/
theorem Good.replace_crash {n : Nat} {d : D} {l : L} {cuts : Bytes} (h : Good (Dk.cutAt cuts 0) n (d, l)) (s : Nat) (all : List Bytes) :
    ∃ l', Found (Dk.cutAt cuts 0) n ((replace (d.stop (s : Int)) l all).2.1.crash cuts).kept ((replace (d.stop (s : Int)) l all).2.1.crash cuts).n (rds l) all (replace (d.stop (s : Int)) l all).1 l' := by
  have hd : (d.stop (s : Int)).kept = d.kept ∧ (d.stop (s : Int)).n = d.n ∧ (d.stop (s : Int)).st = d.st := by
    unfold Dk.D.stop
    by_cases hl : d.left = 0
    · rw [if_pos hl]; exact ⟨rfl, rfl, rfl⟩
    · rw [if_neg hl]; exact ⟨rfl, rfl, rfl⟩
  have hst : (d.stop (s : Int)).st = [] := hd.2.2.trans h.st
  have hn : (d.stop (s : Int)).n = n := hd.2.1.trans h.dn
  have hi : Inv (Dk.cutAt cuts 0) n (d.stop (s : Int)).kept l := by rw [hd.1]; exact h.inv
  rcases hi.replace (cut_le cuts 0) hn hst all with ⟨e, he, hr⟩ | hk
  · rw [hr]
    exact ⟨l, by rw [crash_nil hst]; exact hi, hn, .inr (.inl ⟨by dsimp only; omega, by dsimp only; omega, rfl⟩)⟩
  · exact hk.crash hi hst hn rfl
end Wl
end Go.Proofs.YtkmljbbnpjlehaaDoor
