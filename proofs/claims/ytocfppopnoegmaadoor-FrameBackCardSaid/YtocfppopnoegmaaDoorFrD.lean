/- The document's All of package frame, for any list of bytes whose frames would be of at most 2^24 bytes. -/
import Derived.Test.YtocfppopnoegmaaDoorFrC
namespace Go.Proofs.YtocfppopnoegmaaDoor
set_option maxRecDepth 8000
open Go.RowKit

def AllRel (w : World) (l : List (List UInt8)) (ov i : Value) (wr : World) : Prop :=
  ∃ (k : Nat) (A : Option Addr) (c fl : Nat), k ≤ l.length ∧ i = .int .i64 (k : Int) ∧ ov = .slice A fl c ∧ fl = (Fr.frames (l.take k)).length ∧ (l.take k).all Fr.ok = true ∧ Row w.heap.size wr (.slice A fl c) (Fr.frames (l.take k)) ∧ Below w.heap.size w wr
set_option maxHeartbeats 1600000 in
theorem refAll_any (A : Option Addr) (c n : Nat) (l : List (List UInt8)) (w : World) (hn : l.length = n) (h : LC w w.heap.size A l) (ht : Fr.okTotal l ≤ 16777216) (hq : ∀ b ∈ l, b.length ≤ 9223372036854775807) (hl : n ≤ 9223372036854775807) :
    Calls Tryd.prog 12 #[.slice A n c] w (PutPost (Fr.all l) w) := by
  have HN := Lib.hid hn
  have HL := Lib.hid h
  have HTT := Lib.hid ht
  clear hn h
  go_enter Tryd.func12, Tryd.ntmps12
  go_wp2_with fail
  go_loopw [4, 5] (fun ov i wr => AllRel w l ov i wr) (fun _ i _ => n - (intOf i).toNat)
  case atStart => exact ⟨0, none, 0, 0, Nat.zero_le _, rfl, rfl, rfl, by rw [List.take_zero]; rfl, World.ownsRow_nil _ _ _ _, Below.refl _ _⟩
  case round =>
    obtain ⟨k, A', c', fl, hk, rfl, rfl, hfl, hok, hrow, hbe⟩ := hrel
    have HOK := Lib.hid hok
    have HFL := Lib.hid hfl
    have hnl := HN.out
    clear hok hfl
    by_cases hlt : k < n
    · have hkl : k < l.length := by omega
      obtain ⟨b, off, rfl, hbb, hc⟩ := HL.out (by omega)
      obtain ⟨Ak, ck, c0', hx0⟩ := hc k hkl
      have c0 := (hbe.cell (p := ⟨b, off + k, none⟩) hbb).trans c0'
      have hxr := (hx0.keepB hbe (Nat.le_refl _)).moreB hbe.size
      have hxl := hq l[k] (List.getElem_mem hkl)
      have HERR : Hid (∀ e, Fr.put l[k] = .error e → Fr.all l = .error e) := Lib.hid (fun e he => Fr.all_error hkl HOK.out he)
      have HSN : Hid (Fr.ok l[k] = true → (l.take (k + 1)).all Fr.ok = true) := Lib.hid (fun h => by
        rw [List.take_succ_eq_append_getElem hkl, List.all_append, HOK.out, List.all_cons, h]; rfl)
      have HFR : Hid (Fr.frames (l.take (k + 1)) = Fr.frames (l.take k) ++ Fr.frame l[k]) := Lib.hid (by
        rw [List.take_succ_eq_append_getElem hkl, Fr.frames_app, Fr.frames_cons]
        show _ ++ (_ ++ []) = _
        rw [List.append_nil])
      have HTK : Hid (Fr.ok l[k] = true → (Fr.frames (l.take k)).length + (Fr.frame l[k]).length ≤ 16777216) := Lib.hid (fun h => by
        have h1 := Fr.frames_total (l.take (k + 1))
        have h2 := Fr.okTotal_take l (k + 1) (HSN.out h)
        have h3 := HTT.out
        rw [HFR.out, List.length_append] at h1
        omega)
      obtain ⟨x, hx⟩ : ∃ x, x = l[k] := ⟨_, rfl⟩
      rw [← hx] at c0 hxr hxl HERR HSN HFR HTK
      obtain ⟨m, hm⟩ : ∃ m, m = x.length := ⟨_, rfl⟩
      rw [← hm] at c0 hxl
      have HP := Lib.hid (refPut_any Ak ck m x wr hm.symm hxr hxl)
      have i0 : (0 : Int) ≤ (k : Int) := by omega
      have i1 : (k : Int) < (n : Int) := by omega
      clear hx hm hkl hc hx0 c0' hxr hnl hxl
      cases hok : Fr.ok x with
      | false =>
        obtain ⟨e, he, hp⟩ := Fr.put_bad hok
        have HA : Hid (Fr.all l = .error e) := Lib.hid (HERR.out e hp)
        rw [hp] at HP
        have e0 : ((e : Int) != 0) = true := by simp; omega
        clear hok hp he
        go_wp2_with fail
        refine HP.out.mono ?_
        rintro _ w2 ⟨hb2, rfl⟩
        go_wp2_with fail
        go_ret2
        exact ⟨hbe.trans (hb2.mono hbe.size), by rw [HA.out]; rfl⟩
      | true =>
        have HNX := Lib.hid (HSN.out hok)
        have HTK := Lib.hid (HTK.out hok)
        rw [Fr.put_ok hok] at HP
        clear hok
        go_wp2_with fail
        refine HP.out.mono ?_
        rintro _ w2 ⟨hb2, Af, cf, rfl, hrf⟩
        have hrow2 : Row w.heap.size w2 (.slice A' fl c') (Fr.frames (l.take k)) := own_below hrow hb2
        have hbcf := (row_cells hrf).bc
        have hbe2 := hbe.trans (hb2.mono hbe.size)
        obtain ⟨fx, hfx⟩ : ∃ fx, fx = Fr.frame x := ⟨_, rfl⟩
        rw [← hfx] at hbcf HFR HTK ⊢
        obtain ⟨fm, hfm⟩ : ∃ fm, fm = fx.length := ⟨_, rfl⟩
        rw [← hfm]
        have HFM := Lib.hid hfm.symm
        clear hrow hb2 hbe hrf hfx hfm
        have hH := hbe2.size
        go_wp2_with (at_builtin; refine wpList_append_bytes ?hw1 (.tmp 25) (.tmp 26) rfl w.heap.size (.slice A' fl c') Af cf fm (Fr.frames (l.take k)) fx rfl HFM.out rfl hrow2 hbcf HTK.out hH ?_; rotate_right; intro v9 w9 hown9 hgrow9)
        have hbe9 := hbe2.grown hgrow9 hH (fun k hk => (World.ownsRow.lt hrow2 k hk).1)
        obtain ⟨A9, c9, hv9, _⟩ := hown9.form
        subst hv9
        rw [← HFR.out] at hown9 ⊢
        have HROW := Lib.hid hown9
        clear hown9 hgrow9 hrow2 hbcf hbe2
        go_roundw
        case rel => exact ⟨k + 1, A9, c9, _, by have := HN.out; omega, by go_num, rfl, rfl, HNX.out, HROW.out, hbe9⟩
        case measure => simp [intOf]; omega
    · have hall2 : l.all Fr.ok = true := by
        have := HOK.out
        rwa [List.take_of_length_le (by omega)] at this
      have HA := Lib.hid (Fr.all_of_ok hall2)
      have htk : l.take k = l := List.take_of_length_le (by omega)
      have hf := HFL.out
      rw [htk] at hrow hf
      subst hf
      clear hall2 hnl
      go_wp2_with fail
      go_ret2
      exact ⟨hbe, by rw [HA.out]; exact ⟨A', c', rfl, hrow⟩⟩
end Go.Proofs.YtocfppopnoegmaaDoor
