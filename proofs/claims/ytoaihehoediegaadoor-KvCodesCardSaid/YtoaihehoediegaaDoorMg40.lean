/- The change that bytes begin with: the program's first. Condition: at most 2^20 bytes, one at least. Decode: the program's. No condition but that bytes lie in memory. -/
import Derived.Test.YtoaihehoediegaaDoorMg06
import Derived.Test.YtoaihehoediegaaDoorMg39
import Derived.Test.YtoaihehoediegaaDoorMg16
import Derived.Deep.QuietTactic
import Derived.BigQuiet
import Derived.Test.YtoaihehoediegaaDoorMg07
namespace Go.Proofs.YtoaihehoediegaaDoor
set_option maxRecDepth 8000
open Go.RowKit

def FirstP (l : List UInt8) (w : World) (e : Ending) (w' : World) : Prop :=
  Below w.heap.size w w' ∧ match Kv.first l with
  | none => e = .returned (.tuple #[.agg #[.string ⟨#[]⟩, .string ⟨#[]⟩, .bool false], .int .i64 0])
  | some (c, m) => e = .returned (.tuple #[cV c, .int .i64 (m : Int)])
theorem below_set3 {a w : World} {b : Nat} (h : Below b a w) {x y z : Value} : Below b a (((w.setCell ⟨b, 0, none⟩ x).setCell ⟨b, 1, none⟩ y).setCell ⟨b, 2, none⟩ z) :=
  ((h.setCell (p := ⟨b, 0, none⟩) (Nat.le_refl _) x).setCell (p := ⟨b, 1, none⟩) (Nat.le_refl _) y).setCell (p := ⟨b, 2, none⟩) (Nat.le_refl _) z
set_option maxHeartbeats 3200000 in
theorem kvFirst_any (w : World) (A : Option Addr) (n c : Nat) (l : List UInt8) (hn : l.length = n) (hb : BCells w w.heap.size A l) (h0 : 0 < n) (hc : n ≤ c) (hcm : c ≤ 9223372036854775807) (hl : n ≤ 1048576) :
    Calls Tryd.prog 70 #[.slice A n c] w (FirstP l w) := by
  obtain ⟨bb, off, rfl, hbb, hcl⟩ := hb (by omega)
  obtain ⟨x0, hx0⟩ : ∃ x : Nat, x = l[0].toNat := ⟨_, rfl⟩
  have h256 : x0 < 256 := by rw [hx0]; exact UInt8.toNat_lt _
  have c0 := hcl 0 (by omega)
  rw [B, ← hx0, Nat.add_zero] at c0
  have hg0 : (l.getD 0 0).toNat = x0 := by rw [hx0]; simp [List.getD, show 0 < l.length by omega]
  have hbw : Below w.heap.size w (w.alloc (.cells #[.string ⟨#[]⟩, .string ⟨#[]⟩, .bool false] 54)) := (Below.refl _ _).alloc (Nat.le_refl _) _
  obtain ⟨ke, hke⟩ : ∃ ke, ke = x0 + 1 := ⟨_, rfl⟩
  obtain ⟨bg, hbg⟩ : ∃ bg, bg = x0 + 3 := ⟨_, rfl⟩
  have w1 : IntKind.i64.wrap (1 + (x0 : Int)) = (ke : Int) := by rw [IntWalk.i64_in _ (by omega)]; omega
  have w2 : IntKind.i64.wrap ((ke : Int) + 2) = (bg : Int) := by rw [IntWalk.i64_in _ (by omega)]; omega
  have p0 : (0 : Int) < (n : Int) := by omega
  have d0 := (hbw.cell (p := ⟨bb, off, none⟩) hbb).trans c0
  by_cases hlt : n < bg
  · have hF : Hid (Kv.first l = none) := Lib.hid (by unfold Kv.first; rw [hg0, if_pos (by omega)])
    have i1 : (n : Int) < (bg : Int) := by omega
    have HBW := Lib.hid hbw
    clear hb hcl hx0 hke hbg hg0 hn hbw
    go_enter Tryd.func70, Tryd.ntmps70
    go_wp2_with fail
    exact bodyPost_ret (v := .tuple #[.agg #[.string ⟨#[]⟩, .string ⟨#[]⟩, .bool false], .int .i64 0]) (by simp [results, Tryd.results70, go_sem]) rfl ⟨HBW.out, by rw [hF.out]⟩
  · have i1 : ¬ (n : Int) < (bg : Int) := by omega
    obtain ⟨x1, hx1⟩ : ∃ x : Nat, x = (l[ke]'(by omega)).toNat := ⟨_, rfl⟩
    obtain ⟨x2, hx2⟩ : ∃ x : Nat, x = (l[ke + 1]'(by omega)).toNat := ⟨_, rfl⟩
    have h1 : x1 < 256 := by rw [hx1]; exact UInt8.toNat_lt _
    have h2 : x2 < 256 := by rw [hx2]; exact UInt8.toNat_lt _
    have c1 := hcl ke (by omega)
    rw [B, ← hx1] at c1
    have c2 := hcl (ke + 1) (by omega)
    rw [B, ← hx2] at c2
    obtain ⟨kf, hkf⟩ : ∃ kf, kf = ke + 1 := ⟨_, rfl⟩
    rw [← hkf] at c2
    have d1 := (hbw.cell (p := ⟨bb, off + ke, none⟩) hbb).trans c1
    have d2 := (hbw.cell (p := ⟨bb, off + kf, none⟩) hbb).trans c2
    have hg1 : (l.getD (x0 + 1) 0).toNat = x1 := by rw [hx1, ← hke]; simp [List.getD, show ke < l.length by omega]
    have hg2 : (l.getD (x0 + 2) 0).toNat = x2 := by rw [hx2, show x0 + 2 = ke + 1 by omega]; simp [List.getD, show ke + 1 < l.length by omega]
    obtain ⟨y1, hy1⟩ : ∃ y, y = 256 * x1 := ⟨_, rfl⟩
    obtain ⟨N, hN⟩ : ∃ N, N = 256 * x1 + x2 := ⟨_, rfl⟩
    have hs1 : IntKind.i64.wrap ((x1 : Int) * 256) = (y1 : Int) := by rw [IntWalk.i64_in _ (by omega)]; omega
    have hs2 : bits .or .i64 (y1 : Int) (x2 : Int) = (N : Int) := by rw [i64_or_nat y1 x2 (by omega) (by omega), hy1, or_low x1 x2 h2, hN]
    have w3 : IntKind.i64.wrap ((ke : Int) + 1) = (kf : Int) := by rw [IntWalk.i64_in _ (by omega)]; omega
    obtain ⟨en, hen⟩ : ∃ en, en = bg + N := ⟨_, rfl⟩
    have w4 : IntKind.i64.wrap ((bg : Int) + (N : Int)) = (en : Int) := by rw [IntWalk.i64_in _ (by omega)]; omega
    have HF : Hid (Kv.first l = if N = 65535 then some (⟨(l.drop 1).take x0, [], true⟩, bg) else if n < en then none else some (⟨(l.drop 1).take x0, (l.drop bg).take N, false⟩, en)) := Lib.hid (by
      unfold Kv.first
      rw [hg0, if_neg (by omega), hg1, hg2, ← hN, hn, hen, hbg])
    obtain ⟨key, hkey⟩ : ∃ key, key = (l.drop 1).take x0 := ⟨_, rfl⟩
    have hkl : key.length = x0 := by rw [hkey, List.length_take, List.length_drop]; omega
    have hb0 : BCells (w.alloc (.cells #[.string ⟨#[]⟩, .string ⟨#[]⟩, .bool false] 54)) (w.alloc (.cells #[.string ⟨#[]⟩, .string ⟨#[]⟩, .bool false] 54)).heap.size (some ⟨bb, off, none⟩) l := hb.next hbw
    have hcv := bin_string (w.alloc (.cells #[.string ⟨#[]⟩, .string ⟨#[]⟩, .bool false] 54)) (some ⟨bb, off + 1, none⟩) key (c - 1) (by rw [hkey]; exact sub_cells hb0)
    rw [hkl] at hcv
    rw [← hkey] at HF
    have hk1 : ke - 1 = x0 := by omega
    have j1 : (1 : Int) ≤ (ke : Int) := by omega
    have j2 : (ke : Int) ≤ (c : Int) := by omega
    have j3 : (ke : Int) < (n : Int) := by omega
    have j4 : (kf : Int) < (n : Int) := by omega
    have j5 : (0 : Int) ≤ (ke : Int) := by omega
    have j6 : (0 : Int) ≤ (kf : Int) := by omega
    have j7 : ¬ (c - 1 = 0) := by omega
    have j8 : ¬ (c = 1) := by omega
    have HBW := Lib.hid hbw
    have HKE := Lib.hid hke
    have HBG := Lib.hid hbg
    have HKF := Lib.hid hkf
    have HEN := Lib.hid hen
    have HN := Lib.hid hN
    have HLN := Lib.hid hn
    clear hb hcl hx0 hg0 hg1 hg2 hx1 hx2 hkey hkl hke hbg hkf hen hN hy1 hlt hn
    go_enter Tryd.func70, Tryd.ntmps70
    go_upto_region 6 with fail
    go_quiet (fail)
    have HBD := Lib.hid (below_drewN HBW.out nq)
    by_cases hg : N = 65535
    · have i2 : (N : Int) = 65535 := by omega
      go_wp2_with fail
      exact bodyPost_ret (v := .tuple #[.agg #[.string (S key), .string ⟨#[]⟩, .bool true], .int .i64 bg]) (by simp [results, Tryd.results70, go_sem]) rfl ⟨below_set3 HBD.out, by rw [HF.out, if_pos hg]; rfl⟩
    · have i2 : ¬ (N : Int) = 65535 := by omega
      by_cases hlt : n < en
      · have i3 : (n : Int) < (en : Int) := by omega
        go_wp2_with fail
        exact bodyPost_ret (v := .tuple #[.agg #[.string ⟨#[]⟩, .string ⟨#[]⟩, .bool false], .int .i64 0]) (by simp [results, Tryd.results70, go_sem]) rfl ⟨below_set3 HBD.out, by rw [HF.out, if_neg hg, if_pos hlt]⟩
      · have i3 : ¬ (n : Int) < (en : Int) := by omega
        have hen := HEN.out
        have hbn : bg ≤ n := by omega
        have j9 : (bg : Int) ≤ (en : Int) := by omega
        have j10 : (en : Int) ≤ (c : Int) := by omega
        have j11 : (0 : Int) ≤ (bg : Int) := by omega
        have j12 : en - bg = N := by omega
        obtain ⟨val, hval⟩ : ∃ val, val = (l.drop bg).take N := ⟨_, rfl⟩
        have hvl : val.length = N := by rw [hval, List.length_take, List.length_drop]; have := HLN.out; omega
        by_cases hcb : c - bg = 0
        · have hcv2 := bin_string ((w.alloc (.cells #[.string ⟨#[]⟩, .string ⟨#[]⟩, .bool false] 54)).drewN nq) (some ⟨bb, off, none⟩) [] 0 (fun h => absurd h (by simp))
          rw [List.length_nil] at hcv2
          have hN0 : N = 0 := by omega
          have hv0 : val = [] := List.eq_nil_of_length_eq_zero (hvl.trans hN0)
          rw [← hval, hv0] at HF
          have e1 : en = bg := by omega
          have e2 : c = bg := by omega
          subst e1
          have e3 : ¬ en = 0 := by have := HBG.out; omega
          clear hval hvl hen hcb
          subst e2
          go_wp2_with fail
          exact bodyPost_ret (v := .tuple #[.agg #[.string (S key), .string (S []), .bool false], .int .i64 c]) (by simp [results, Tryd.results70, go_sem]) rfl ⟨below_set3 HBD.out, by rw [HF.out, if_neg hg, if_neg hlt]; rfl⟩
        · have hcv2 := bin_string ((w.alloc (.cells #[.string ⟨#[]⟩, .string ⟨#[]⟩, .bool false] 54)).drewN nq) (some ⟨bb, off + bg, none⟩) val (c - bg) (by rw [hval]; exact sub_cells (hb0.next (below_drewN (Below.refl _ _) nq)))
          rw [hvl] at hcv2
          have j13 : ¬ (c = bg) := by omega
          rw [← hval] at HF
          clear hval hvl hen
          go_wp2_with fail
          exact bodyPost_ret (v := .tuple #[.agg #[.string (S key), .string (S val), .bool false], .int .i64 en]) (by simp [results, Tryd.results70, go_sem]) rfl ⟨below_set3 HBD.out, by rw [HF.out, if_neg hg, if_neg hlt]; rfl⟩
end Go.Proofs.YtoaihehoediegaaDoor
namespace Go.Proofs.YtoaihehoediegaaDoor
set_option maxRecDepth 8000
open Go.RowKit

/-- What Decode tells. -/
def DecP (w : World) (r : Except Nat (List Kv.C)) (e : Ending) (w' : World) : Prop :=
  Below w.heap.size w w' ∧ match r with
  | .error k => e = .returned (.tuple #[.slice none 0 0, .int .i64 (k : Int)])
  | .ok l => ∃ A c, e = .returned (.tuple #[.slice A l.length c, .int .i64 0]) ∧ ChRow w.heap.size w' (.slice A l.length c) l
set_option maxHeartbeats 3200000 in
theorem kvDecode_any (w : World) (A : Option Addr) (n c : Nat) (l : List UInt8) (hn : l.length = n) (hb : BCells w w.heap.size A l) (hc : n ≤ c) (hcm : c ≤ 9223372036854775807) :
    Calls Tryd.prog 25 #[.slice A n c] w (DecP w (Kv.decode l)) := by
  by_cases h4 : 4000 < n
  · have h4I : (4000 : Int) < (n : Int) := by omega
    have HE : Hid (Kv.decode l = .error 8) := Lib.hid (by unfold Kv.decode; rw [if_pos (by omega)])
    clear hb hn
    go_enter Tryd.func25, Tryd.ntmps25
    go_wp2_with fail
    go_ret2
    rw [HE.out]
    exact ⟨Below.refl _ _, rfl⟩
  · have h4I : ¬ (4000 : Int) < (n : Int) := by omega
    have HN := Lib.hid hn
    have HW := Lib.hid hb
    clear hb hn
    go_enter Tryd.func25, Tryd.ntmps25
    go_wp2_with fail
    go_loopw [4, 5] (fun ov rv wr => ∃ (k : Nat) (acc : List Kv.C) (A2 A3 : Option Addr) (m2 c2 r cc : Nat), ov = .slice A2 m2 c2 ∧ rv = .slice A3 r cc ∧ m2 = acc.length ∧ k + r = n ∧ r ≤ cc ∧ cc ≤ 9223372036854775807 ∧ BCells w w.heap.size A3 (l.drop k) ∧ Kv.Run l k acc ∧ acc.length ≤ k ∧ ChRow w.heap.size wr ov acc ∧ Below w.heap.size w wr) (fun _ rv _ => match rv with | .slice _ r _ => r | _ => 0)
    case atStart => exact ⟨0, [], none, A, 0, 0, n, c, rfl, rfl, rfl, Nat.zero_add _, hc, hcm, by rw [List.drop_zero]; exact HW.out, Kv.Run.start l, Nat.le_refl _, World.ownsRow_nil _ _ _ _, Below.refl _ _⟩
    case round =>
      obtain ⟨k, acc, A2, A3, m2, c2, r, cc, rfl, rfl, hm2, hkr, hrc, hcc, hbc, hrun, hal, hrow, hb⟩ := hrel
      have HB := Lib.hid hb
      have HROW := Lib.hid hrow
      have HM2 := Lib.hid hm2
      have HRUN := Lib.hid hrun
      have hll := HN.out
      by_cases hr0 : 0 < r
      · have hrI : (0 : Int) < (r : Int) := by omega
        have hdl : (l.drop k).length = r := by rw [List.length_drop]; omega
        obtain ⟨bb, off, rfl, hbb, hcl⟩ := hbc (by omega)
        have HCL := Lib.hid hbc
        have HDL := Lib.hid hdl
        have HF : Hid (Calls Tryd.prog 70 #[.slice (some ⟨bb, off, none⟩) r cc] wr (FirstP (l.drop k) wr)) := Lib.hid (kvFirst_any wr (some ⟨bb, off, none⟩) r cc (l.drop k) hdl (hbc.next hb) hr0 hrc hcc (by omega))
        have hkl : k < l.length := by omega
        have HKL := Lib.hid hkl
        clear hb hrow hm2 hrun hbc hcl hdl hll hkl
        go_upto_region 6 with fail
        go_wp2_with fail
        refine HF.out.mono ?_
        rintro _ wx ⟨hbx, hfx⟩
        clear HF
        have HBX := Lib.hid hbx
        clear hbx
        cases hff : Kv.first (l.drop k) with
        | none =>
          rw [hff] at hfx
          dsimp only at hfx
          subst hfx
          have HE : Hid (Kv.decode l = .error 8) := Lib.hid (by
            unfold Kv.decode
            rw [if_neg (by have := HN.out; omega), HRUN.out.none_first HKL.out hff])
          clear hff
          go_wp2_with fail
          go_ret2
          rw [HE.out]
          exact ⟨(HB.out.trans (HBX.out.mono HB.out.size)).alloc (Nat.le_trans HB.out.size HBX.out.size) _, rfl⟩
        | some q =>
          obtain ⟨ch, m⟩ := q
          rw [hff] at hfx
          dsimp only at hfx
          subst hfx
          unfold cV
          have hlen := Kv.first_len hff
          rw [HDL.out] at hlen
          have hmI : ¬ (m : Int) = 0 := by omega
          have HFF := Lib.hid hff
          clear hff
          obtain ⟨wy, hwy⟩ : ∃ wy, wy = wx.alloc (.cells #[.string (S ch.k), .string (S ch.v), .bool ch.g] 54) := ⟨_, rfl⟩
          have hby : Below wx.heap.size wx wy := by rw [hwy]; exact (Below.refl _ _).alloc (Nat.le_refl _) _
          have hlty : wx.heap.size < wy.heap.size := by simp [hwy]
          have e0 : wy.heap[wx.heap.size]? = some (.cells #[.string (S ch.k), .string (S ch.v), .bool ch.g] 54 (0, 0)) := by rw [hwy]; exact heap_alloc_new wx _
          have HCX : Hid (∀ w', Below wy.heap.size wy w' → w'.cell? ⟨wx.heap.size, 0, none⟩ = some (.string (S ch.k)) ∧ w'.cell? ⟨wx.heap.size, 1, none⟩ = some (.string (S ch.v)) ∧ w'.cell? ⟨wx.heap.size, 2, none⟩ = some (.bool ch.g)) := Lib.hid (fun w' hb' => by
            have e := (hb'.block _ hlty).trans e0
            exact ⟨cell_of_row w' _ 0 _ _ _ e, cell_of_row w' _ 1 _ _ _ e, cell_of_row w' _ 2 _ _ _ e⟩)
          have HRT : Hid (Calls Tryd.prog 66 #[.agg #[.string (S ch.k), .string (S ch.v), .bool ch.g]] wy fun e w' => e = .returned (.bool (Kv.right ch)) ∧ Below wy.heap.size wy w') := Lib.hid (kvRight_any wy ch)
          have HBY := Lib.hid ((HBX.out.trans (hby.mono HBX.out.size)))
          clear hby hlty e0
          go_upto_region 7 with fail
          rw [← hwy]
          clear hwy
          obtain ⟨g0, g1, g2⟩ := HCX.out wy (Below.refl _ _)
          go_wp2_with fail
          refine HRT.out.mono ?_
          rintro _ wz ⟨rfl, hbz⟩
          have hbrz := HBY.out.trans (hbz.mono HBY.out.size)
          have HBZ := Lib.hid (HB.out.trans (hbrz.mono HB.out.size))
          have HROWZ : Hid (ChRow w.heap.size wz (.slice A2 m2 c2) acc) := Lib.hid (own_below HROW.out hbrz)
          obtain ⟨r0, r1, r2⟩ := HCX.out wz hbz
          clear g0 g1 g2 hbz hbrz HRT
          cases hr : Kv.right ch with
          | false =>
            have HE : Hid (Kv.decode l = .error 8) := Lib.hid (by
              unfold Kv.decode
              rw [if_neg (by have := HN.out; omega), HRUN.out.none_right HKL.out HFF.out hr])
            clear hr
            go_wp2_with fail
            go_ret2
            rw [HE.out]
            exact ⟨HBZ.out, rfl⟩
          | true =>
            have HNX := Lib.hid (HRUN.out.next HKL.out HFF.out hr)
            clear hr
            have hml := hlen.2
            have m0 : (0 : Int) ≤ (m : Int) := by omega
            have m1 : (m : Int) ≤ (r : Int) := by omega
            have hrI2 : r - m ≤ cc - m := by omega
            by_cases hcm0 : cc - m = 0
            · have e1 : m = cc := by omega
              have e2 : r = cc := by omega
              subst e1
              subst e2
              go_wp2_with (at_builtin; refine wpList_change rfl (.tmp 27) (.tmp 29) w.heap.size wz.heap.size (.slice A2 m2 c2) acc ch rfl rfl rfl (World.ownsRow.alloc HROWZ.out _) (heap_alloc_new wz _) (by omega) (HBZ.out.alloc HBZ.out.size _).size ?_; intro g cap w6 hown6 hb6)
              go_roundw
              case rel => exact ⟨k + r, acc ++ [ch], _, _, acc.length + 1, cap, 0, 0, rfl, rfl, by simp, by omega, Nat.le_refl _, by omega, fun h => absurd h (by rw [List.length_drop]; have := HN.out; omega), HNX.out, by rw [List.length_append, List.length_singleton]; omega, hown6, (HBZ.out.alloc HBZ.out.size _).trans hb6⟩
              case measure => dsimp only; omega
            · have hcm1 : ¬ cc = m := by omega
              go_wp2_with (at_builtin; refine wpList_change rfl (.tmp 27) (.tmp 29) w.heap.size wz.heap.size (.slice A2 m2 c2) acc ch rfl rfl rfl (World.ownsRow.alloc HROWZ.out _) (heap_alloc_new wz _) (by omega) (HBZ.out.alloc HBZ.out.size _).size ?_; intro g cap w6 hown6 hb6)
              go_roundw
              case rel => exact ⟨k + m, acc ++ [ch], _, _, acc.length + 1, cap, r - m, cc - m, rfl, rfl, by simp, by omega, hrI2, by omega, by
                have h1 := sub_cells (a := m) (m := r) HCL.out
                rw [List.drop_drop, List.take_of_length_le (by rw [List.length_drop]; have := HN.out; omega)] at h1
                exact h1, HNX.out, by rw [List.length_append, List.length_singleton]; omega, hown6, (HBZ.out.alloc HBZ.out.size _).trans hb6⟩
              case measure => dsimp only; omega
      · have hr1 : r = 0 := by omega
        have hrI : ¬ (0 : Int) < (r : Int) := by omega
        have hkl : k = l.length := by omega
        have HE : Hid (Kv.decode l = .ok acc) := Lib.hid (by
          unfold Kv.decode
          rw [hkl] at hrun
          rw [if_neg (by omega), hrun.done])
        clear hb hrow hm2 hrun hbc hll hkl hkr
        subst hr1
        go_wp2_with fail
        go_ret2
        rw [HE.out]
        exact ⟨HB.out, A2, c2, by rw [← HM2.out]; rfl, by rw [← HM2.out]; exact HROW.out⟩
end Go.Proofs.YtoaihehoediegaaDoor
