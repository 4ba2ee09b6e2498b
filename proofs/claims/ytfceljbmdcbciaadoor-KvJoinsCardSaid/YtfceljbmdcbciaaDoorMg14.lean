/- The document's Scan of package frame, for any bytes of at most 2^24. What package frame's calls tell, as one structure, and the statements' own awake over it. -/
import Derived.Test.YtfceljbmdcbciaaDoorMg13
import Derived.Deep.RegionHeld3
import Derived.Deep.DeepCutAuto
namespace Go.Proofs.YtfceljbmdcbciaaDoor
set_option maxRecDepth 8000
open Go.RowKit

theorem below_drewN' {B : Nat} {a w : World} (h : Below B a w) (n : Nat) : Below B a (w.drewN n) := h.trans ⟨rfl, rfl, rfl, Nat.le_refl _, fun _ _ => rfl⟩
theorem sub_cells {w : World} {bd a m bb off : Nat} {l : List UInt8} (h : BCells w bd (some ⟨bb, off, none⟩) l) : BCells w bd (some ⟨bb, off + a, none⟩) ((l.drop a).take m) := fun hn => by
  rw [List.length_take, List.length_drop] at hn
  obtain ⟨b, o, e, hlt, hc⟩ := h (by omega)
  injection e with e
  injection e with e1 e2 _
  subst e1 e2
  refine ⟨bb, off + a, rfl, hlt, fun k hk => ?_⟩
  rw [List.length_take, List.length_drop] at hk
  have := hc (a + k) (by omega)
  rw [List.getElem_take, List.getElem_drop, Nat.add_assoc]
  exact this
def ScanRel (w : World) (l : List UInt8) (ov iv : Value) (wr : World) : Prop :=
  ∃ (a : Nat) (acc : List (List UInt8)) (A : Option Addr) (c m : Nat) (cs : List Value), iv = .int .i64 (a : Int) ∧ ov = .slice A m c ∧ m ≤ a ∧ Fr.ScanTo l acc a ∧ LRow w.heap.size wr A m c acc cs ∧ Below w.heap.size w wr
/-- What Scan tells. -/
def ScanPost (l : List UInt8) (w : World) (e : Ending) (w' : World) : Prop :=
  ∃ A c m cs, e = .returned (.tuple #[.slice A m c, .int .i64 ((Fr.scan l).2 : Int)]) ∧ LRow w.heap.size w' A m c (Fr.scan l).1 cs ∧ Below w.heap.size w w'

set_option maxHeartbeats 4000000 in
theorem refScan_any (A : Option Addr) (c n : Nat) (l : List UInt8) (w : World) (hn : l.length = n) (hb : BCells w w.heap.size A l) (hc : n ≤ c) (hcm : c ≤ 9223372036854775807) (hl : n ≤ 16777216) :
    Calls Tryd.prog 50 #[.slice A n c] w (ScanPost l w) := by
  have HN := Lib.hid hn
  have HB := Lib.hid hb
  clear hn hb
  obtain ⟨i0, hi0, hz0, hz1, hz2⟩ := info_parts Tryd.infoBytes
  go_enter Tryd.func50, Tryd.ntmps50
  go_wp2_with fail
  go_loopw [4, 5] (fun ov iv wr => ScanRel w l ov iv wr) (fun _ iv _ => n - (intOf iv).toNat)
  case atStart => exact ⟨0, [], none, 0, 0, [], rfl, rfl, Nat.le_refl _, Fr.ScanTo.start l, LRow.nil _ _, Below.refl _ _⟩
  case round =>
    obtain ⟨a, acc, A', c', m', cs, rfl, rfl, hma, hsc, hlr, hbe⟩ := hrel
    have HSC := Lib.hid hsc
    have han : a ≤ n := by have := hsc.1; have := HN.out; omega
    clear hsc
    by_cases h6 : a + 6 ≤ n
    · have hnl := HN.out
      obtain ⟨bb, off, rfl, hbb, hcl⟩ := HB.out (by omega)
      have hal : a + 1 < l.length := by omega
      have hlen := Fr.len_at hal
      have c0' := hcl a (by omega)
      have c1' := hcl (a + 1) hal
      obtain ⟨x0, hx0⟩ : ∃ x : Nat, x = l[a].toNat := ⟨_, rfl⟩
      obtain ⟨x1, hx1⟩ : ∃ x : Nat, x = l[a + 1].toNat := ⟨_, rfl⟩
      have h0 : x0 < 256 := by rw [hx0]; exact UInt8.toNat_lt _
      have h1 : x1 < 256 := by rw [hx1]; exact UInt8.toNat_lt _
      obtain ⟨m, hm⟩ : ∃ m, m = Fr.len (l.drop a) := ⟨_, rfl⟩
      have hmx : m = 256 * x0 + x1 := by rw [hm, hlen, hx0, hx1]
      have HM := Lib.hid hm
      obtain ⟨a1, ha1⟩ : ∃ a1, a1 = a + 1 := ⟨_, rfl⟩
      obtain ⟨a6, ha6⟩ : ∃ a6, a6 = a + 6 := ⟨_, rfl⟩
      obtain ⟨e, he⟩ : ∃ e, e = a + 6 + m := ⟨_, rfl⟩
      have c0 : wr.cell? ⟨bb, off + a, none⟩ = some (.int .u8 (x0 : Int)) := by rw [hx0]; exact (hbe.cell (p := ⟨bb, off + a, none⟩) hbb).trans c0'
      have c1 : wr.cell? ⟨bb, off + a1, none⟩ = some (.int .u8 (x1 : Int)) := by rw [hx1, ha1]; exact (hbe.cell (p := ⟨bb, off + (a + 1), none⟩) hbb).trans c1'
      have hw1 : IntKind.i64.wrap ((a : Int) + 1) = (a1 : Int) := by rw [IntWalk.i64_in _ (by omega)]; omega
      have hw6 : IntKind.i64.wrap ((a : Int) + 6) = (a6 : Int) := by rw [IntWalk.i64_in _ (by omega)]; omega
      have hwe : IntKind.i64.wrap ((a6 : Int) + (m : Int)) = (e : Int) := by rw [IntWalk.i64_in _ (by omega)]; omega
      have hv1 : IntKind.i64.wrap (256 * (x0 : Int)) = 256 * (x0 : Int) := IntWalk.i64_in _ (by omega)
      have hv2 : IntKind.i64.wrap (256 * (x0 : Int) + (x1 : Int)) = (m : Int) := by rw [IntWalk.i64_in _ (by omega)]; omega
      have j0 : (0 : Int) ≤ (a : Int) := by omega
      have j1 : (a : Int) < (n : Int) := by omega
      have j2 : (0 : Int) ≤ (a1 : Int) := by omega
      have j3 : (a1 : Int) < (n : Int) := by omega
      have j4 : (a6 : Int) ≤ (n : Int) := by omega
      have HE := Lib.hid (And.intro ha1 (And.intro ha6 (And.intro he hmx)))
      have hae : a6 ≤ e := by omega
      have haa : a < a6 := by omega
      clear hx0 hx1 hm hmx ha1 ha6 he c0' c1' hcl hlen hal hnl
      go_upto_region 4 with fail
      go_quiet (fail)
      have hbq := below_drewN' (Below.refl wr.heap.size wr) nq
      generalize wr.drewN nq = w2 at hbq ⊢
      have hlr2 := hlr.next hbq
      have hbe2 := hbe.trans (hbq.mono hbe.size)
      clear hlr hbe hbq c0 c1
      by_cases hen : e ≤ n
      · have hone : Fr.one (l.drop a) = match Fr.put ((l.drop a6).take m) with
            | .error _ => none
            | .ok f => if (l.drop a).take (6 + m) = f then some ((l.drop a6).take m, l.drop e) else none := by
          obtain ⟨_, q6, qe, _⟩ := HE.out
          have := Fr.one_at HM.out (by have := HN.out; omega : a + 6 + m ≤ l.length)
          rw [← qe, ← q6] at this
          exact this
        obtain ⟨x, hx⟩ : ∃ x, x = (l.drop a6).take m := ⟨_, rfl⟩
        have hxl : x.length = m := by
          have := HN.out
          have := HE.out
          rw [hx, List.length_take, List.length_drop]
          omega
        rw [← hx] at hone
        have HONE := Lib.hid hone
        have k0 : (e : Int) ≤ (n : Int) := by omega
        have k1 : ¬ (n : Int) < (e : Int) := by omega
        have k2 : (e : Int) ≤ (c : Int) := by omega
        have k3 : (a6 : Int) ≤ (e : Int) := by omega
        have k4 : (0 : Int) ≤ (a6 : Int) := by omega
        have k5 : (a : Int) ≤ (e : Int) := by omega
        have hem : e - a6 = m := by have := HE.out; omega
        obtain ⟨c6, hc6⟩ : ∃ c6, c - a6 = c6 := ⟨_, rfl⟩
        obtain ⟨ca, hca⟩ : ∃ ca, c - a = ca := ⟨_, rfl⟩
        by_cases hm0 : m = 0
        · have hx0 : x = [] := List.length_eq_zero_iff.1 (by omega)
          subst hx0
          have HS : Hid (Fr.scan l = (acc, a)) := Lib.hid (HSC.out.stop (by rw [HONE.out]; rfl))
          have HP := fun (A0 : Option Addr) (c0 : Nat) => refPut_any A0 c0 0 [] w2 rfl (fun h => absurd h (by simp)) (by omega)
          have HPP := Lib.hid HP
          subst hm0
          clear hx hxl hone HP
          go_wp2_with fail
          all_goals
            refine (HPP.out _ _).mono ?_
            rintro _ w3 ⟨hb3, rfl⟩
            have hlr3 := hlr2.next hb3
            have hbe3 := hbe2.trans (hb3.mono hbe2.size)
            go_upto_region 8 with fail
            go_quiet (fail)
            have hbq := below_drewN' (Below.refl w3.heap.size w3) nq
            generalize w3.drewN nq = w4 at hbq ⊢
            have hlr4 := hlr3.next hbq
            have hbe4 := hbe3.trans (hbq.mono hbe3.size)
            go_wp2_with fail
            go_ret2
            exact ⟨A', c', m', cs, by rw [HS.out]; rfl, by rw [HS.out]; exact hlr4, hbe4⟩
        · have hlc : a6 < c := by omega
          have hac : a < c := by omega
          have hcn1 : ¬ c = a := by omega
          have hcn2 : ¬ ca = 0 := by omega
          have hcn3 : ¬ c ≤ a := by omega
          have hcn4 : (c == a) = false := by simp; omega
          have hcn5 : 0 < ca := by omega
          have hxc0 := sub_cells (a := a6) (m := m) HB.out
          rw [← hx] at hxc0
          have hxc := (hxc0.keepB hbe2 (Nat.le_refl _)).moreB hbe2.size
          have HP := Lib.hid (refPut_any (some ⟨bb, off + a6, none⟩) c6 m x w2 hxl hxc (by omega))
          have HXC := Lib.hid hxc0
          have HXL := Lib.hid hxl
          clear hxc hxc0 hxl hx hone
          cases hput : Fr.put x with
          | error k =>
            have HS : Hid (Fr.scan l = (acc, a)) := Lib.hid (HSC.out.stop (by rw [HONE.out, hput]))
            have hk : ((k : Int) != 0) = true := by
              have hk0 : k ≠ 0 := by
                unfold Fr.put at hput
                by_cases q0 : x.length = 0
                · rw [if_pos q0] at hput
                  injection hput with hput
                  omega
                · rw [if_neg q0] at hput
                  by_cases q4 : 4000 < x.length
                  · rw [if_pos q4] at hput
                    injection hput with hput
                    omega
                  · rw [if_neg q4] at hput; cases hput
              simp
              omega
            rw [hput] at HP
            clear hput
            go_wp2_with fail
            refine HP.out.mono ?_
            rintro _ w3 ⟨hb3, rfl⟩
            have hlr3 := hlr2.next hb3
            have hbe3 := hbe2.trans (hb3.mono hbe2.size)
            go_upto_region 8 with fail
            go_quiet (fail)
            have hbq := below_drewN' (Below.refl w3.heap.size w3) nq
            generalize w3.drewN nq = w4 at hbq ⊢
            have hlr4 := hlr3.next hbq
            have hbe4 := hbe3.trans (hbq.mono hbe3.size)
            go_wp2_with fail
            go_ret2
            exact ⟨A', c', m', cs, by rw [HS.out]; rfl, by rw [HS.out]; exact hlr4, hbe4⟩
          | ok f =>
            rw [hput] at HP
            have HO2 : Hid (Fr.one (l.drop a) = if (l.drop a).take (6 + m) = f then some (x, l.drop e) else none) := Lib.hid (by rw [HONE.out, hput])
            have hyc0 := sub_cells (a := a) (m := 6 + m) HB.out
            obtain ⟨y, hy⟩ : ∃ y, y = (l.drop a).take (6 + m) := ⟨_, rfl⟩
            have hyl : y.length = e - a := by
              have := HN.out
              have := HE.out
              rw [hy, List.length_take, List.length_drop]
              omega
            rw [← hy] at hyc0 HO2
            obtain ⟨ea, hea⟩ : ∃ ea, e - a = ea := ⟨_, rfl⟩
            rw [hea] at hyl
            have HYC := Lib.hid hyc0
            have HYL := Lib.hid hyl
            clear hput hy hyc0 hyl
            go_wp2_with fail
            refine HP.out.mono ?_
            rintro _ w3 ⟨hb3, Af, cf, rfl, hrf⟩
            have hlr3 := hlr2.next hb3
            have hbe3 := hbe2.trans (hb3.mono hbe2.size)
            obtain ⟨fl, hfl⟩ : ∃ fl, fl = f.length := ⟨_, rfl⟩
            have hfc := row_cells hrf
            have HCV1 := Lib.hid (fun (wx : World) (hw : Below w3.heap.size w3 wx) => bin_string wx Af f cf (hfc.next hw))
            have HCV2 := Lib.hid (fun (wx : World) (hw : Below w.heap.size w wx) => bin_string wx (some ⟨bb, off + a, none⟩) y ca ((HYC.out.keepB hw (Nat.le_refl _)).moreB hw.size))
            rw [← hfl] at HCV1 ⊢
            rw [HYL.out] at HCV2
            clear hfl hrf hfc hlr2 hbe2 hb3
            go_upto_region 8 with fail
            by_cases hq : y = f
            · have hcmp : ((S f).toList == (S y).toList) = true := by rw [hq]; simp
              have HST := Lib.hid (HSC.out.step (by rw [HO2.out, if_pos hq] : Fr.one (l.drop a) = some (x, l.drop e)) (by have := HXL.out; have := HE.out; omega) (by have := HN.out; omega))
              clear hq
              go_region_held3 (fun wx => (convert 36 9 (.slice Af fl cf)).run Tryd.prog wx = .ok (.string (S f)) wx ∧ (convert 36 9 (.slice (some ⟨bb, off + a, none⟩) ea ca)).run Tryd.prog wx = .ok (.string (S y)) wx) (exact ⟨HCV1.out _ (Below.refl _ _).drew, HCV2.out _ hbe3.drew⟩) (fail)
              all_goals
                have hlr4 := hlr3.next (Below.refl _ _).drew
                have hbe4 := hbe3.drew
                generalize w3.drew = w4 at hlr4 hbe4 ⊢
                have hb5 : Below w4.heap.size w4 (w4.alloc (.cells #[] 5)) := (Below.refl _ _).alloc (Nat.le_refl _) _
                have hown0 := row_none w4 w4.heap.size (Nat.le_refl _) w4.heap.size rfl
                have hbc5 : BC (w4.alloc (.cells #[] 5)) (some ⟨bb, off + a6, none⟩) x := (HXC.out.keepB (hbe4.trans (hb5.mono hbe4.size)) (Nat.le_refl _)).bc
                have hAlt : ∀ b ∈ blkOf A', b < w4.heap.size := fun b hb => by
                  cases A' with
                  | none => simp [blkOf] at hb
                  | some ad =>
                    simp only [blkOf, List.mem_singleton] at hb
                    rw [hb]
                    exact (World.ownsRow.lt hlr4.row ad.block rfl).2
                have h63 : m' + 1 ≤ maxLen := by unfold maxLen; omega
                have h64 : (m' + 1) * 24 ≤ 140737488355328 := by omega
                have tok1 : True := trivial
                have tok2 : True := trivial
                clear hlr3 hbe3
                go_wp2_with (first
                  | (at_builtin; have _t := tok1; refine wpList_append_bytes ?hw1 (.tmp 64) (.tmp 65) rfl w4.heap.size (.slice (some ⟨w4.heap.size, 0, none⟩) 0 0) (some ⟨bb, off + a6, none⟩) c6 m [] x rfl HXL.out rfl hown0 hbc5 (by have := HXL.out; simp; omega) (by simp) ?_; rotate_right; intro v6 w6 hown6 hgrow6; have hb6 : Below w4.heap.size w4 w6 := hb5.grown hgrow6 (by simp) (fun k hk => (World.ownsRow.lt hown0 k hk).1); obtain ⟨A6, c66, hv6, _, hlo6⟩ := hown6.form; subst hv6; have hxc6 := row_cells hown6; have hlr6 := hlr4.next hb6; have hs6 := hb6.size; have hbe6 := hbe4.trans (hb6.mono hbe4.size); have hba : Below w6.heap.size w6 (w6.alloc (.cells #[.slice A6 ([] ++ x).length c66] 36)) := (Below.refl _ _).alloc (Nat.le_refl _) _; have hlr7 := hlr6.next hba; have hrow7 := hlr7.row; clear tok1)
                  | (at_builtin; have _t := tok2; have _h := hrow7; refine wpList_append_lies _ rfl (.tmp 63) (.tmp 67) _ rfl w.heap.size 36 i0 _ 1 24 Tryd.underlying37 hi0 hz0 hz1 hz2 rfl (by omega) _ m' cs rfl hrow7 ⟨w6.heap.size, 0, none⟩ 1 1 [.slice A6 ([] ++ x).length c66] rfl rfl (World.news_of_block (cs := #[.slice A6 ([] ++ x).length c66]) (t := 36) (fr := (0, 0)) (heap_alloc_new w6 _)) (by simp [Value.oneCell']) (by omega) h63 h64 (by have := hbe6.size; simp; omega) (w6.heap.size + 1) (by simp) ?_; intro gg cp w8 hown8 hgrow8 hat8 hlt8; clear tok2))
                have hxn : ([] ++ x : List UInt8) = x := List.nil_append x
                rw [hxn] at hxc6 hown8
                have hlr8 := LRow.push hlr7 (x := x) (Ax := A6) (cx := c66) rfl (hxc6.next hba) (fun b hb => by
                  cases A6 with
                  | none => simp [blkOf] at hb
                  | some ad =>
                    simp only [blkOf, List.mem_singleton] at hb
                    have h1 := hlo6 ad rfl
                    have h2 := hbe4.size
                    refine ⟨by rw [hb]; omega, by rw [hb]; exact Nat.lt_of_lt_of_le h1.2.1 hba.size, fun hm => ?_⟩
                    have := hAlt b hm
                    rw [hb] at this
                    omega) hown8 hgrow8 (hat8.imp id (fun e => by simpa using e))
                have hbe8 := (hbe6.trans (hba.mono hbe6.size)).grown hgrow8 (by have := hbe6.size; simp; omega) (fun k hk => (World.ownsRow.lt hrow7 k hk).1)
                have HL8 := Lib.hid hlr8
                clear hlr8 hown8 hgrow8 hat8 hrow7 hlr7 hlr6 hown6
                go_roundw
                case rel => exact ⟨e, acc ++ [x], some ⟨gg, 0, none⟩, cp, m' + 1, _, rfl, rfl, by omega, HST.out, HL8.out, hbe8⟩
                case measure => simp [intOf]; omega
            · have hcmp : ((S f).toList == (S y).toList) = false := by rw [S_list, S_list]; simpa using fun e => hq e.symm
              have HS : Hid (Fr.scan l = (acc, a)) := Lib.hid (HSC.out.stop (by rw [HO2.out, if_neg hq]))
              clear hq
              go_region_held3 (fun wx => (convert 36 9 (.slice Af fl cf)).run Tryd.prog wx = .ok (.string (S f)) wx ∧ (convert 36 9 (.slice (some ⟨bb, off + a, none⟩) ea ca)).run Tryd.prog wx = .ok (.string (S y)) wx) (exact ⟨HCV1.out _ (Below.refl _ _).drew, HCV2.out _ hbe3.drew⟩) (fail)
              all_goals
                go_wp2_with fail
                go_ret2
                exact ⟨A', c', m', cs, by rw [HS.out]; rfl, by rw [HS.out]; exact hlr3.next (Below.refl _ _).drew, hbe3.drew⟩
      · have HS : Hid (Fr.scan l = (acc, a)) := Lib.hid (HSC.out.stop (Fr.one_long HM.out (by have := HN.out; have := HE.out; omega)))
        have hno : (n : Int) < (e : Int) := by omega
        go_wp2_with fail
        go_ret2
        exact ⟨A', c', m', cs, by rw [HS.out]; rfl, by rw [HS.out]; exact hlr2, hbe2⟩
    · have HS : Hid (Fr.scan l = (acc, a)) := Lib.hid (HSC.out.stop (Fr.one_end (by have := HN.out; omega)))
      obtain ⟨a6, ha6⟩ : ∃ a6, a6 = a + 6 := ⟨_, rfl⟩
      have hw6 : IntKind.i64.wrap ((a : Int) + 6) = (a6 : Int) := by rw [IntWalk.i64_in _ (by omega)]; omega
      have hno : ¬ (a6 : Int) ≤ (n : Int) := by omega
      clear ha6
      go_wp2_with fail
      go_ret2
      exact ⟨A', c', m', cs, by rw [HS.out]; rfl, by rw [HS.out]; exact hlr, hbe⟩
end Go.Proofs.YtfceljbmdcbciaaDoor
namespace Go.Proofs.YtfceljbmdcbciaaDoor
set_option maxRecDepth 8000
open Go.RowKit

/-- What Scan tells, for whoever reads it. -/
def ToldPost (l : List UInt8) (w : World) (e : Ending) (w' : World) : Prop :=
  ∃ A c m, e = .returned (.tuple #[.slice A m c, .int .i64 ((Fr.scan l).2 : Int)]) ∧ m = (Fr.scan l).1.length ∧ m ≤ c ∧ c ≤ 9223372036854775807 ∧ LC w' w'.heap.size A (Fr.scan l).1 ∧ Below w.heap.size w w'
structure FrOk (Env : World → Prop) : Prop where
  next : ∀ w w', Env w → Below w.heap.size w w' → Env w'
  put : ∀ (A : Option Addr) (c n : Nat) (l : List UInt8) (w : World), Env w → l.length = n → BCells w w.heap.size A l → n ≤ c → c ≤ 9223372036854775807 → Calls Tryd.prog 69 #[.slice A n c] w (PutPost (Fr.put l) w)
  all : ∀ (A : Option Addr) (c n : Nat) (l : List (List UInt8)) (w : World), Env w → l.length = n → LC w w.heap.size A l → n ≤ c → c ≤ 9223372036854775807 → Fr.okTotal l ≤ 16777216 → (∀ b ∈ l, b.length ≤ 9223372036854775807) → Calls Tryd.prog 80 #[.slice A n c] w (PutPost (Fr.all l) w)
  scan : ∀ (A : Option Addr) (c n : Nat) (l : List UInt8) (w : World), Env w → l.length = n → BCells w w.heap.size A l → n ≤ c → c ≤ 9223372036854775807 → n ≤ 16777216 → Calls Tryd.prog 45 #[.slice A n c] w (ToldPost l w)
  size : ∀ (n : Nat) (w : World), Env w → n ≤ 1099511627776 → Calls Tryd.prog 93 #[.int .i64 (n : Int)] w fun e w' => e = .returned (.int .i64 ((n : Int) + 6)) ∧ Below w.heap.size w w'
theorem row_cap {base : Nat} {w : World} {A : Option Addr} {n c : Nat} {l : List UInt8} (h : Row base w (.slice A n c) l) : n ≤ c ∧ c ≤ 9223372036854775807 := by
  have hn := row_len h
  rcases h.2 with ⟨h1, h2⟩ | ⟨g, cap, cur, h1, _, _, h2, h3, _⟩
  · injection h1 with _ e1 e2
    subst e2
    omega
  · injection h1 with _ e1 e2
    subst e2
    unfold maxLen at h3
    omega
theorem refScan_told {l : List UInt8} {w : World} {e : Ending} {w' : World} (h : ScanPost l w e w') : ∃ A c m, e = .returned (.tuple #[.slice A m c, .int .i64 ((Fr.scan l).2 : Int)]) ∧ m = (Fr.scan l).1.length ∧ LC w' w'.heap.size A (Fr.scan l).1 ∧ Below w.heap.size w w' := by
  obtain ⟨A, c, m, cs, he, hl, hb⟩ := h
  exact ⟨A, c, m, he, hl.len, hl.lc, hb⟩
/-- One slice of bytes, in a list. -/
theorem lc_one {w : World} {g : Nat} {A : Option Addr} {m c : Nat} {x : List UInt8} (hg : w.heap[g]? = some (.cells #[.slice A m c] 36 (0, 0))) (hm : x.length = m) (hx : BCells w w.heap.size A x) : LC w w.heap.size (some ⟨g, 0, none⟩) [x] := fun _ => by
  refine ⟨g, 0, rfl, (Array.getElem?_eq_some_iff.1 hg).1, fun k hk => ?_⟩
  have hk0 : k = 0 := by simpa using hk
  subst hk0
  refine ⟨A, c, ?_, hx⟩
  rw [cell_of_row w g 0 _ _ _ hg]
  subst hm
  rfl
theorem bc_made {w : World} {g : Nat} {l : List UInt8} {fr : Nat × Nat} (hg : w.heap[g]? = some (.cells (l.map B).toArray 5 fr)) : BCells w w.heap.size (some ⟨g, 0, none⟩) l := fun _ => by
  refine ⟨g, 0, rfl, (Array.getElem?_eq_some_iff.1 hg).1, fun k hk => ?_⟩
  rw [Nat.zero_add, cell_of_row w g k _ _ _ hg]
  simp [hk]

end Go.Proofs.YtfceljbmdcbciaaDoor
