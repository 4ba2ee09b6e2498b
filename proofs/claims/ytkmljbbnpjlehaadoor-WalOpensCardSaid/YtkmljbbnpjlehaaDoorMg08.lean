/- The program's All of package frame, for any list of bytes whose frames would be of at most 2^24 bytes, where the table of sums reads as its text lays it. The frame that a text begins with, as the program's own first tells it; bytes.HasPrefix; for any bytes of at most 2^24. -/
import Derived.Test.YtkmljbbnpjlehaaDoorMg07
import Derived.Test.YtkmljbbnpjlehaaDoorMg06
namespace Go.Proofs.YtkmljbbnpjlehaaDoor
set_option maxRecDepth 8000
open Go.RowKit

set_option maxHeartbeats 1600000 in
theorem all_any (A : Option Addr) (c n : Nat) (l : List (List UInt8)) (w : World) (hH : Hs w) (hn : l.length = n) (h : LC w w.heap.size A l) (ht : Fr.okTotal l ≤ 16777216) (hq : ∀ b ∈ l, b.length ≤ 9223372036854775807) (hl : n ≤ 9223372036854775807) :
    Calls Tryd.prog 95 #[.slice A n c] w (PutPost (Fr.all l) w) := by
  have HN := Lib.hid hn
  have HL := Lib.hid h
  have HTT := Lib.hid ht
  clear hn h
  go_enter Tryd.func95, Tryd.ntmps95
  go_wp2_with fail
  go_loopw [4, 11] (fun ov i wr => AllRel w l ov i wr) (fun _ i _ => n - (intOf i).toNat)
  case atStart => exact ⟨0, none, 0, 0, Nat.zero_le _, rfl, rfl, rfl, by rw [List.take_zero]; rfl, World.ownsRow_nil _ _ _ _, Below.refl _ _⟩
  case round =>
    obtain ⟨k, A', c', fl, hk, rfl, rfl, hfl, hok, hrow, hbe⟩ := hrel
    have HOK := Lib.hid hok
    have HFL := Lib.hid hfl
    have hnl := HN.out
    clear hok hfl
    by_cases hlt : k < n
    · have hkl : k < l.length := by omega
      obtain ⟨b, off, rfl, hbb, hc⟩ := HL.out (by omega)
      obtain ⟨Ak, ck, c0', hx0⟩ := hc k hkl
      have c0 := (hbe.cell (p := ⟨b, off + k, none⟩) hbb).trans c0'
      have hxr := (hx0.keepB hbe (Nat.le_refl _)).moreB hbe.size
      have hxl := hq l[k] (List.getElem_mem hkl)
      have HERR : Hid (∀ e, Fr.put l[k] = .error e → Fr.all l = .error e) := Lib.hid (fun e he => Fr.all_error hkl HOK.out he)
      have HSN : Hid (Fr.ok l[k] = true → (l.take (k + 1)).all Fr.ok = true) := Lib.hid (fun h => by
        rw [List.take_succ_eq_append_getElem hkl, List.all_append, HOK.out, List.all_cons, h]; rfl)
      have HFR : Hid (Fr.frames (l.take (k + 1)) = Fr.frames (l.take k) ++ Fr.frame l[k]) := Lib.hid (by
        rw [List.take_succ_eq_append_getElem hkl, Fr.frames_app, Fr.frames_cons]
        show _ ++ (_ ++ []) = _
        rw [List.append_nil])
      have HTK : Hid (Fr.ok l[k] = true → (Fr.frames (l.take k)).length + (Fr.frame l[k]).length ≤ 16777216) := Lib.hid (fun h => by
        have h1 := Fr.frames_total (l.take (k + 1))
        have h2 := Fr.okTotal_take l (k + 1) (HSN.out h)
        have h3 := HTT.out
        rw [HFR.out, List.length_append] at h1
        omega)
      obtain ⟨x, hx⟩ : ∃ x, x = l[k] := ⟨_, rfl⟩
      rw [← hx] at c0 hxr hxl HERR HSN HFR HTK
      obtain ⟨m, hm⟩ : ∃ m, m = x.length := ⟨_, rfl⟩
      rw [← hm] at c0 hxl
      have HP := Lib.hid (put_any Ak ck m x wr (hH.next hbe) hm.symm hxr hxl)
      have i0 : (0 : Int) ≤ (k : Int) := by omega
      have i1 : (k : Int) < (n : Int) := by omega
      clear hx hm hkl hc hx0 c0' hxr hnl hxl
      cases hok : Fr.ok x with
      | false =>
        obtain ⟨e, he, hp⟩ := Fr.put_bad hok
        have HA : Hid (Fr.all l = .error e) := Lib.hid (HERR.out e hp)
        rw [hp] at HP
        have e0 : ((e : Int) != 0) = true := by simp; omega
        clear hok hp he
        go_wp2_with fail
        refine HP.out.mono ?_
        rintro _ w2 ⟨hb2, rfl⟩
        go_wp2_with fail
        go_ret2
        exact ⟨hbe.trans (hb2.mono hbe.size), by rw [HA.out]; rfl⟩
      | true =>
        have HNX := Lib.hid (HSN.out hok)
        have HTK := Lib.hid (HTK.out hok)
        rw [Fr.put_ok hok] at HP
        clear hok
        go_wp2_with fail
        refine HP.out.mono ?_
        rintro _ w2 ⟨hb2, Af, cf, rfl, hrf⟩
        have hrow2 : Row w.heap.size w2 (.slice A' fl c') (Fr.frames (l.take k)) := own_below hrow hb2
        have hbcf := (row_cells hrf).bc
        have hbe2 := hbe.trans (hb2.mono hbe.size)
        obtain ⟨fx, hfx⟩ : ∃ fx, fx = Fr.frame x := ⟨_, rfl⟩
        rw [← hfx] at hbcf HFR HTK ⊢
        obtain ⟨fm, hfm⟩ : ∃ fm, fm = fx.length := ⟨_, rfl⟩
        rw [← hfm]
        have HFM := Lib.hid hfm.symm
        clear hrow hb2 hbe hrf hfx hfm
        have hH := hbe2.size
        go_wp2_with (at_builtin; refine wpList_append_bytes ?hw1 (.tmp 23) (.tmp 24) rfl w.heap.size (.slice A' fl c') Af cf fm (Fr.frames (l.take k)) fx rfl HFM.out rfl hrow2 hbcf HTK.out hH ?_; rotate_right; intro v9 w9 hown9 hgrow9)
        have hbe9 := hbe2.grown hgrow9 hH (fun k hk => (World.ownsRow.lt hrow2 k hk).1)
        obtain ⟨A9, c9, hv9, _⟩ := hown9.form
        subst hv9
        rw [← HFR.out] at hown9 ⊢
        have HROW := Lib.hid hown9
        clear hown9 hgrow9 hrow2 hbcf hbe2
        go_roundw
        case rel => exact ⟨k + 1, A9, c9, _, by have := HN.out; omega, by go_num, rfl, rfl, HNX.out, HROW.out, hbe9⟩
        case measure => simp [intOf]; omega
    · have hall2 : l.all Fr.ok = true := by
        have := HOK.out
        rwa [List.take_of_length_le (by omega)] at this
      have HA := Lib.hid (Fr.all_of_ok hall2)
      have htk : l.take k = l := List.take_of_length_le (by omega)
      have hf := HFL.out
      rw [htk] at hrow hf
      subst hf
      clear hall2 hnl
      go_wp2_with fail
      go_ret2
      exact ⟨hbe, by rw [HA.out]; exact ⟨A', c', rfl, hrow⟩⟩
end Go.Proofs.YtkmljbbnpjlehaaDoor
namespace Go.Proofs.YtkmljbbnpjlehaaDoor
set_option maxRecDepth 8000
open Go.RowKit

theorem i64_or_nat (a b : Nat) (ha : a < 1048576) (hb : b < 1048576) : bits .or .i64 (a : Int) (b : Int) = ((a ||| b : Nat) : Int) := by
  have hx : a ||| b < 2 ^ 20 := Nat.or_lt_two_pow (by omega) (by omega)
  have h1 : (BitVec.ofInt 64 (a : Int)).toNat = a := by rw [BitVec.ofInt_natCast, BitVec.toNat_ofNat]; exact Nat.mod_eq_of_lt (by omega)
  have h2 : (BitVec.ofInt 64 (b : Int)).toNat = b := by rw [BitVec.ofInt_natCast, BitVec.toNat_ofNat]; exact Nat.mod_eq_of_lt (by omega)
  show IntKind.i64.wrap ((BitVec.ofInt 64 (a : Int) ||| BitVec.ofInt 64 (b : Int)).toNat : Int) = _
  rw [BitVec.toNat_or, h1, h2]
  exact IntWalk.i64_in _ (by omega)
theorem or_low (a b : Nat) (hb : b < 256) : 256 * a ||| b = 256 * a + b := (Nat.two_pow_add_eq_or_of_lt (i := 8) hb a).symm

theorem equal_any (w : World) (A A' : Option Addr) (l l' : List UInt8) (n n' c c' : Nat) (hn : n = l.length) (hn' : n' = l'.length) (h : BCells w w.heap.size A l) (h' : BCells w w.heap.size A' l') :
    Calls Tryd.prog 145 #[.slice A n c, .slice A' n' c'] w fun e w' => e = .returned (.bool (decide (l = l'))) ∧ w = w' := by
  have h1 := bin_string w A l c h
  have h2 := bin_string w A' l' c' h'
  rw [← hn] at h1
  rw [← hn'] at h2
  clear hn hn'
  go_enter Tryd.func145, Tryd.ntmps145
  go_wp2_with fail
  go_ret
  exact ⟨ret_bool (S_eq l l'), rfl⟩
theorem take_cellsF {w : World} {bd m : Nat} {A : Option Addr} {l : List UInt8} (h : BCells w bd A l) : BCells w bd A (l.take m) := fun hn => by
  rw [List.length_take] at hn
  obtain ⟨b, o, e, hlt, hc⟩ := h (by omega)
  refine ⟨b, o, e, hlt, fun k hk => ?_⟩
  rw [List.length_take] at hk
  rw [List.getElem_take]
  exact hc k (by omega)
theorem hasPrefix_any (w : World) (A A' : Option Addr) (l p : List UInt8) (n m c c' : Nat) (hn : n = l.length) (hm : m = p.length) (hc : n ≤ c) (_hcm : c ≤ 9223372036854775807) (h : BCells w w.heap.size A l) (h' : BCells w w.heap.size A' p) :
    Calls Tryd.prog 131 #[.slice A n c, .slice A' m c'] w fun e w' => e = .returned (.bool (decide (l.take m = p))) ∧ w = w' := by
  by_cases hle : m ≤ n
  · have HE := Lib.hid (equal_any w A A' (l.take m) p m m c c' (by rw [List.length_take]; omega) hm (take_cellsF h) h')
    have h1 : (m : Int) ≤ (n : Int) := by omega
    have h2 : (m : Int) ≤ (c : Int) := by omega
    have h3 : (0 : Int) ≤ (m : Int) := by omega
    clear hn hm h h'
    go_enter Tryd.func131, Tryd.ntmps131
    go_wp2_with fail
    refine HE.out.mono ?_
    rintro _ _ ⟨rfl, rfl⟩
    go_wp2_with fail
    go_ret
    exact ⟨rfl, rfl⟩
  · have hd : ¬ l.take m = p := fun e => by
      have := congrArg List.length e
      rw [List.length_take] at this
      omega
    have h1 : ¬ (m : Int) ≤ (n : Int) := by omega
    have HD := Lib.hid hd
    clear hd hn hm
    go_enter Tryd.func131, Tryd.ntmps131
    go_wp2_with fail
    go_ret
    exact ⟨ret_bool (decide_eq_false HD.out).symm, rfl⟩
theorem row_base {base base' : Nat} {w : World} {v : Value} {l : List UInt8} (h : Row base w v l) (hle : base' ≤ base) : Row base' w v l := by
  refine ⟨h.1, ?_⟩
  rcases h.2 with h1 | ⟨g, cap, cur, hv, hb, hg, hr⟩
  · exact .inl h1
  · exact .inr ⟨g, cap, cur, hv, Nat.le_trans hle hb, hg, hr⟩
/-- What first tells. -/
def FirstPost (l : List UInt8) (w : World) (e : Ending) (w' : World) : Prop :=
  Below w.heap.size w w' ∧ match Fr.one l with
  | none => e = .returned (.slice none 0 0)
  | some (x, _) => ∃ A c, e = .returned (.slice A (6 + x.length) c) ∧ Row w.heap.size w' (.slice A (6 + x.length) c) (Fr.frame x)
theorem size_anyE (n e : Nat) (w : World) (hn : n ≤ 1099511627776) (he : e = n + 6) : Calls Tryd.prog 106 #[.int .i64 (n : Int)] w fun v w' => v = .returned (.int .i64 (e : Int)) ∧ w' = w := by
  refine (size_any n w hn).mono ?_
  rintro _ _ ⟨rfl, rfl⟩
  exact ⟨by rw [show (n : Int) + 6 = (e : Int) by omega], rfl⟩

set_option maxHeartbeats 1600000 in
theorem first_any (A : Option Addr) (c n : Nat) (l : List UInt8) (w : World) (hH : Hs w) (hn : l.length = n) (hb : BCells w w.heap.size A l) (hc : n ≤ c) (hcm : c ≤ 9223372036854775807) (hl : n ≤ 16777216) :
    Calls Tryd.prog 119 #[.slice A n c] w (FirstPost l w) := by
  by_cases h6 : n < 6
  · have HO : Hid (Fr.one l = none) := Lib.hid (by
      have := Fr.one_end (b := l) (a := 0) (by omega)
      rwa [List.drop_zero] at this)
    have h6' : (n : Int) < 6 := by omega
    clear hn
    go_enter Tryd.func119, Tryd.ntmps119
    go_wp2_with fail
    go_ret
    exact ⟨Below.refl _ _, by rw [HO.out]; rfl⟩
  · have hal : 0 + 1 < l.length := by omega
    have hlen := Fr.len_at hal
    rw [List.drop_zero] at hlen
    obtain ⟨bb, off, rfl, hbb, hcl⟩ := hb (by omega)
    have c0 := hcl 0 (by omega)
    have c1 := hcl 1 (by omega)
    obtain ⟨x0, hx0⟩ : ∃ x : Nat, x = l[0].toNat := ⟨_, rfl⟩
    obtain ⟨x1, hx1⟩ : ∃ x : Nat, x = l[1].toNat := ⟨_, rfl⟩
    have h0 : x0 < 256 := by rw [hx0]; exact UInt8.toNat_lt _
    have h1 : x1 < 256 := by rw [hx1]; exact UInt8.toNat_lt _
    obtain ⟨m, hm⟩ : ∃ m, m = Fr.len l := ⟨_, rfl⟩
    have hmx : m = 256 * x0 + x1 := by rw [hm, hlen, hx0, hx1]
    obtain ⟨e, he⟩ : ∃ e, e = m + 6 := ⟨_, rfl⟩
    rw [B, ← hx0, Nat.add_zero] at c0
    rw [B, ← hx1] at c1
    obtain ⟨y0, hy0⟩ : ∃ y0, y0 = 256 * x0 := ⟨_, rfl⟩
    have hs1 : IntKind.i64.wrap ((x0 : Int) * 256) = (y0 : Int) := by rw [IntWalk.i64_in _ (by omega)]; omega
    have hs2 : bits .or .i64 (y0 : Int) (x1 : Int) = (m : Int) := by rw [i64_or_nat y0 x1 (by omega) (by omega), hy0, or_low x0 x1 h1, hmx]
    have HSZ := Lib.hid (fun (wx : World) => size_anyE m e wx (by omega) he)
    have hn6 : ¬ (n : Int) < 6 := by omega
    have hp0 : (0 : Int) < (n : Int) := by omega
    have hp1 : (1 : Int) < (n : Int) := by omega
    have HE := Lib.hid (And.intro he (And.intro hm hmx))
    have HB := Lib.hid hb
    have HN := Lib.hid hn
    have HY := Lib.hid hy0
    clear he hm hmx hx0 hx1 hlen hal hcl hb hn hy0
    go_enter Tryd.func119, Tryd.ntmps119
    go_upto_region 3 with fail
    go_quiet ((go_at_call 106; exact Calls.quiet_of_same (HSZ.out _)))
    have hbq := below_drewN' (Below.refl w.heap.size w) nq
    generalize w.drewN nq = w2 at hbq ⊢
    have hH2 := hH.next hbq
    clear c0 c1 hs1 hs2 HSZ
    by_cases hen : e ≤ n
    · have hone : Fr.one l = match Fr.put ((l.drop 6).take m) with
          | .error _ => none
          | .ok f => if l.take (6 + m) = f then some ((l.drop 6).take m, l.drop (6 + m)) else none := by
        obtain ⟨qe, qm, _⟩ := HE.out
        have := Fr.one_at (b := l) (a := 0) (n := m) (by rw [List.drop_zero]; exact qm) (by have := HN.out; omega)
        rw [List.drop_zero, Nat.zero_add] at this
        exact this
      obtain ⟨x, hx⟩ : ∃ x, x = (l.drop 6).take m := ⟨_, rfl⟩
      have hxl : x.length = m := by
        have := HN.out
        have := HE.out
        rw [hx, List.length_take, List.length_drop]
        omega
      rw [← hx] at hone
      have HONE := Lib.hid hone
      have k1 : ¬ (n : Int) < (e : Int) := by omega
      have k2 : (e : Int) ≤ (c : Int) := by omega
      have k3 : (6 : Int) ≤ (e : Int) := by have := HE.out; omega
      have hem : e - 6 = m := by have := HE.out; omega
      obtain ⟨c6, hc6⟩ : ∃ c6, c - 6 = c6 := ⟨_, rfl⟩
      by_cases hm0 : m = 0
      · have hx0 : x = [] := List.length_eq_zero_iff.1 (by omega)
        subst hx0
        have HS : Hid (Fr.one l = none) := Lib.hid (by rw [HONE.out]; rfl)
        have HP := Lib.hid (fun (A0 : Option Addr) (c0 : Nat) => put_any A0 c0 0 [] w2 hH2 rfl (fun h => absurd h (by simp)) (by omega))
        subst hm0
        clear hx hxl hone
        go_wp2_with fail
        all_goals
          refine (HP.out _ _).mono ?_
          rintro _ w3 ⟨hb3, rfl⟩
          go_wp2_with fail
          go_ret
          exact ⟨hbq.trans (hb3.mono hbq.size), by rw [HS.out]; rfl⟩
      · have hlc : 6 < c := by have := HE.out; omega
        have hxc0 := sub_cells (a := 6) (m := m) HB.out
        rw [← hx] at hxc0
        have hxc := (hxc0.keepB hbq (Nat.le_refl _)).moreB hbq.size
        have HP := Lib.hid (put_any (some ⟨bb, off + 6, none⟩) c6 m x w2 hH2 hxl hxc (by omega))
        have hcn1 : ¬ c = 6 := by omega
        have hcn2 : ¬ c6 = 0 := by omega
        have hcn3 : ¬ c ≤ 6 := by omega
        have hcn4 : (c == 6) = false := by simp; omega
        have hcn5 : 0 < c6 := by omega
        have HXL := Lib.hid hxl
        clear hxc hxc0 hxl hx hone hH2
        cases hput : Fr.put x with
        | error k =>
          have HS : Hid (Fr.one l = none) := Lib.hid (by rw [HONE.out, hput])
          have hk : ((k : Int) != 0) = true := by
            have hk0 : k ≠ 0 := by
              unfold Fr.put at hput
              by_cases q0 : x.length = 0
              · rw [if_pos q0] at hput
                injection hput with hput
                omega
              · rw [if_neg q0] at hput
                by_cases q4 : 4000 < x.length
                · rw [if_pos q4] at hput
                  injection hput with hput
                  omega
                · rw [if_neg q4] at hput; cases hput
            simp
            omega
          rw [hput] at HP
          clear hput
          go_wp2_with fail
          refine HP.out.mono ?_
          rintro _ w3 ⟨hb3, rfl⟩
          go_wp2_with fail
          go_ret
          exact ⟨hbq.trans (hb3.mono hbq.size), by rw [HS.out]; rfl⟩
        | ok f =>
          have hxok : Fr.ok x = true := by
            cases hok : Fr.ok x with
            | true => rfl
            | false =>
              obtain ⟨e', _, hp⟩ := Fr.put_bad hok
              rw [hp] at hput
              cases hput
          have hfx : f = Fr.frame x := by
            rw [Fr.put_ok hxok] at hput
            injection hput with hput
            exact hput.symm
          have hfl : f.length = 6 + x.length := by rw [hfx, Fr.frame_len]
          rw [hput] at HP
          have HO2 : Hid (Fr.one l = if l.take (6 + m) = f then some (x, l.drop (6 + m)) else none) := Lib.hid (by rw [HONE.out, hput])
          have HFX := Lib.hid hfx
          obtain ⟨fl, hfll⟩ : ∃ fl, fl = f.length := ⟨_, rfl⟩
          have HFL : Hid (fl = 6 + x.length ∧ fl = 6 + m) := Lib.hid ⟨by omega, by have := HXL.out; omega⟩
          clear hput hxok hfx hfl
          go_wp2_with fail
          refine HP.out.mono ?_
          rintro _ w3 ⟨hb3, Af, cf, rfl, hrf⟩
          have hbe3 := hbq.trans (hb3.mono hbq.size)
          have hfc := row_cells hrf
          rw [← hfll] at hrf ⊢
          have HPR := Lib.hid (hasPrefix_any w3 (some ⟨bb, off, none⟩) Af l f n fl c cf HN.out.symm hfll hc hcm (HB.out.next hbe3) hfc)
          have HROW := Lib.hid hrf
          clear hfll hfc hrf
          by_cases hq : l.take (6 + m) = f
          · have HS : Hid (Fr.one l = some (x, l.drop (6 + m))) := Lib.hid (by rw [HO2.out, if_pos hq])
            have HPR2 := Lib.hid (HPR.out.mono (R' := fun e w' => e = .returned (.bool true) ∧ w3 = w') (fun _ _ ⟨h1, h2⟩ => ⟨by rw [h1, HFL.out.2, decide_eq_true hq], h2⟩))
            clear hq HPR
            go_wp2_with fail
            refine HPR2.out.mono ?_
            rintro _ _ ⟨rfl, rfl⟩
            go_wp2_with fail
            go_ret
            refine ⟨hbe3, ?_⟩
            rw [HS.out]
            refine ⟨Af, cf, ?_, ?_⟩
            · rw [← HFL.out.1]; rfl
            · have h := row_base HROW.out hbq.size
              rwa [HFX.out, HFL.out.1] at h
          · have HS : Hid (Fr.one l = none) := Lib.hid (by rw [HO2.out, if_neg hq])
            have HPR2 := Lib.hid (HPR.out.mono (R' := fun e w' => e = .returned (.bool false) ∧ w3 = w') (fun _ _ ⟨h1, h2⟩ => ⟨by rw [h1, HFL.out.2, decide_eq_false hq], h2⟩))
            clear hq HPR
            go_wp2_with fail
            refine HPR2.out.mono ?_
            rintro _ _ ⟨rfl, rfl⟩
            go_wp2_with fail
            go_ret
            exact ⟨hbe3, by rw [HS.out]; rfl⟩
    · have HS : Hid (Fr.one l = none) := Lib.hid (by
        have := Fr.one_long (b := l) (a := 0) (n := m) (by rw [List.drop_zero]; exact HE.out.2.1) (by have := HN.out; have := HE.out; omega)
        rwa [List.drop_zero] at this)
      have hno : (n : Int) < (e : Int) := by omega
      go_wp2_with fail
      go_ret
      exact ⟨hbq, by rw [HS.out]; rfl⟩
end Go.Proofs.YtkmljbbnpjlehaaDoor
