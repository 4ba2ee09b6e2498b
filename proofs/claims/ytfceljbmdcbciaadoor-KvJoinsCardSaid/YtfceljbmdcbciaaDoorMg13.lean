/- The document's All of package frame, for any list of bytes whose frames would be of at most 2^24 bytes. Lists of bytes that a call makes, as they lie; the document's Scan of package frame. -/
import Derived.Test.YtfceljbmdcbciaaDoorMg05
namespace Go.Proofs.YtfceljbmdcbciaaDoor
set_option maxRecDepth 8000
open Go.RowKit

def AllRel (w : World) (l : List (List UInt8)) (ov i : Value) (wr : World) : Prop :=
  ∃ (k : Nat) (A : Option Addr) (c fl : Nat), k ≤ l.length ∧ i = .int .i64 (k : Int) ∧ ov = .slice A fl c ∧ fl = (Fr.frames (l.take k)).length ∧ (l.take k).all Fr.ok = true ∧ Row w.heap.size wr (.slice A fl c) (Fr.frames (l.take k)) ∧ Below w.heap.size w wr
set_option maxHeartbeats 1600000 in
theorem refAll_any (A : Option Addr) (c n : Nat) (l : List (List UInt8)) (w : World) (hn : l.length = n) (h : LC w w.heap.size A l) (ht : Fr.okTotal l ≤ 16777216) (hq : ∀ b ∈ l, b.length ≤ 9223372036854775807) (hl : n ≤ 9223372036854775807) :
    Calls Tryd.prog 54 #[.slice A n c] w (PutPost (Fr.all l) w) := by
  have HN := Lib.hid hn
  have HL := Lib.hid h
  have HTT := Lib.hid ht
  clear hn h
  go_enter Tryd.func54, Tryd.ntmps54
  go_wp2_with fail
  go_loopw [4, 5] (fun ov i wr => AllRel w l ov i wr) (fun _ i _ => n - (intOf i).toNat)
  case atStart => exact ⟨0, none, 0, 0, Nat.zero_le _, rfl, rfl, rfl, by rw [List.take_zero]; rfl, World.ownsRow_nil _ _ _ _, Below.refl _ _⟩
  case round =>
    obtain ⟨k, A', c', fl, hk, rfl, rfl, hfl, hok, hrow, hbe⟩ := hrel
    have HOK := Lib.hid hok
    have HFL := Lib.hid hfl
    have hnl := HN.out
    clear hok hfl
    by_cases hlt : k < n
    · have hkl : k < l.length := by omega
      obtain ⟨b, off, rfl, hbb, hc⟩ := HL.out (by omega)
      obtain ⟨Ak, ck, c0', hx0⟩ := hc k hkl
      have c0 := (hbe.cell (p := ⟨b, off + k, none⟩) hbb).trans c0'
      have hxr := (hx0.keepB hbe (Nat.le_refl _)).moreB hbe.size
      have hxl := hq l[k] (List.getElem_mem hkl)
      have HERR : Hid (∀ e, Fr.put l[k] = .error e → Fr.all l = .error e) := Lib.hid (fun e he => Fr.all_error hkl HOK.out he)
      have HSN : Hid (Fr.ok l[k] = true → (l.take (k + 1)).all Fr.ok = true) := Lib.hid (fun h => by
        rw [List.take_succ_eq_append_getElem hkl, List.all_append, HOK.out, List.all_cons, h]; rfl)
      have HFR : Hid (Fr.frames (l.take (k + 1)) = Fr.frames (l.take k) ++ Fr.frame l[k]) := Lib.hid (by
        rw [List.take_succ_eq_append_getElem hkl, Fr.frames_app, Fr.frames_cons]
        show _ ++ (_ ++ []) = _
        rw [List.append_nil])
      have HTK : Hid (Fr.ok l[k] = true → (Fr.frames (l.take k)).length + (Fr.frame l[k]).length ≤ 16777216) := Lib.hid (fun h => by
        have h1 := Fr.frames_total (l.take (k + 1))
        have h2 := Fr.okTotal_take l (k + 1) (HSN.out h)
        have h3 := HTT.out
        rw [HFR.out, List.length_append] at h1
        omega)
      obtain ⟨x, hx⟩ : ∃ x, x = l[k] := ⟨_, rfl⟩
      rw [← hx] at c0 hxr hxl HERR HSN HFR HTK
      obtain ⟨m, hm⟩ : ∃ m, m = x.length := ⟨_, rfl⟩
      rw [← hm] at c0 hxl
      have HP := Lib.hid (refPut_any Ak ck m x wr hm.symm hxr hxl)
      have i0 : (0 : Int) ≤ (k : Int) := by omega
      have i1 : (k : Int) < (n : Int) := by omega
      clear hx hm hkl hc hx0 c0' hxr hnl hxl
      cases hok : Fr.ok x with
      | false =>
        obtain ⟨e, he, hp⟩ := Fr.put_bad hok
        have HA : Hid (Fr.all l = .error e) := Lib.hid (HERR.out e hp)
        rw [hp] at HP
        have e0 : ((e : Int) != 0) = true := by simp; omega
        clear hok hp he
        go_wp2_with fail
        refine HP.out.mono ?_
        rintro _ w2 ⟨hb2, rfl⟩
        go_wp2_with fail
        go_ret2
        exact ⟨hbe.trans (hb2.mono hbe.size), by rw [HA.out]; rfl⟩
      | true =>
        have HNX := Lib.hid (HSN.out hok)
        have HTK := Lib.hid (HTK.out hok)
        rw [Fr.put_ok hok] at HP
        clear hok
        go_wp2_with fail
        refine HP.out.mono ?_
        rintro _ w2 ⟨hb2, Af, cf, rfl, hrf⟩
        have hrow2 : Row w.heap.size w2 (.slice A' fl c') (Fr.frames (l.take k)) := own_below hrow hb2
        have hbcf := (row_cells hrf).bc
        have hbe2 := hbe.trans (hb2.mono hbe.size)
        obtain ⟨fx, hfx⟩ : ∃ fx, fx = Fr.frame x := ⟨_, rfl⟩
        rw [← hfx] at hbcf HFR HTK ⊢
        obtain ⟨fm, hfm⟩ : ∃ fm, fm = fx.length := ⟨_, rfl⟩
        rw [← hfm]
        have HFM := Lib.hid hfm.symm
        clear hrow hb2 hbe hrf hfx hfm
        have hH := hbe2.size
        go_wp2_with (at_builtin; refine wpList_append_bytes ?hw1 (.tmp 25) (.tmp 26) rfl w.heap.size (.slice A' fl c') Af cf fm (Fr.frames (l.take k)) fx rfl HFM.out rfl hrow2 hbcf HTK.out hH ?_; rotate_right; intro v9 w9 hown9 hgrow9)
        have hbe9 := hbe2.grown hgrow9 hH (fun k hk => (World.ownsRow.lt hrow2 k hk).1)
        obtain ⟨A9, c9, hv9, _⟩ := hown9.form
        subst hv9
        rw [← HFR.out] at hown9 ⊢
        have HROW := Lib.hid hown9
        clear hown9 hgrow9 hrow2 hbcf hbe2
        go_roundw
        case rel => exact ⟨k + 1, A9, c9, _, by have := HN.out; omega, by go_num, rfl, rfl, HNX.out, HROW.out, hbe9⟩
        case measure => simp [intOf]; omega
    · have hall2 : l.all Fr.ok = true := by
        have := HOK.out
        rwa [List.take_of_length_le (by omega)] at this
      have HA := Lib.hid (Fr.all_of_ok hall2)
      have htk : l.take k = l := List.take_of_length_le (by omega)
      have hf := HFL.out
      rw [htk] at hrow hf
      subst hf
      clear hall2 hnl
      go_wp2_with fail
      go_ret2
      exact ⟨hbe, by rw [HA.out]; exact ⟨A', c', rfl, hrow⟩⟩
end Go.Proofs.YtfceljbmdcbciaaDoor
namespace Go.Proofs.YtfceljbmdcbciaaDoor
set_option maxRecDepth 8000
open Go.RowKit

theorem Tryd.infoBytes : (Tryd.prog.info? 36).map (fun i => (i.zero, i.size, i.bytes)) = some (some (.slice none 0 0), 1, 24) := by kernel_rfl
def blkOf : Option Addr → List Nat
  | some a => [a.block]
  | none => []
/-- A row of the call's own that holds slices of the bytes of l, each in a block of its own. -/
structure LRow (base : Nat) (w : World) (A : Option Addr) (n c : Nat) (l : List (List UInt8)) (cs : List Value) : Prop where
  len : n = l.length
  row : w.ownsRow base 36 1 (.slice A n c) n cs
  el : ∀ k (h : k < l.length), ∃ Ak ck, cs[k]? = some (.slice Ak l[k].length ck) ∧ BCells w w.heap.size Ak l[k] ∧ ∀ b ∈ blkOf Ak, base ≤ b ∧ b < w.heap.size ∧ b ∉ blkOf A
section
variable {base : Nat} {w w' : World} {A : Option Addr} {n c : Nat} {l : List (List UInt8)} {cs : List Value}
theorem LRow.nil (base : Nat) (w : World) : LRow base w none 0 0 [] [] := ⟨rfl, World.ownsRow_nil _ _ _ _, fun k h => absurd h (by simp)⟩
theorem cells_block {w w' : World} {A : Option Addr} {l : List UInt8} (h : BCells w w.heap.size A l) (hs : ∀ b ∈ blkOf A, w'.heap[b]? = w.heap[b]?) (hz : w.heap.size ≤ w'.heap.size) : BCells w' w'.heap.size A l := fun hn => by
  obtain ⟨b, off, rfl, hlt, hc⟩ := h hn
  exact ⟨b, off, rfl, Nat.lt_of_lt_of_le hlt hz, fun k hk => (World.cell?_of_block (hs b (by simp [blkOf]))).trans (hc k hk)⟩
theorem LRow.next (h : LRow base w A n c l cs) (hb : Below w.heap.size w w') : LRow base w' A n c l cs :=
  ⟨h.len, own_below h.row hb, fun k hk => by
    obtain ⟨Ak, ck, e1, e2, e3⟩ := h.el k hk
    exact ⟨Ak, ck, e1, e2.next hb, fun b hb' => ⟨(e3 b hb').1, Nat.lt_of_lt_of_le (e3 b hb').2.1 hb.size, (e3 b hb').2.2⟩⟩⟩
theorem LRow.push (h : LRow base w A n c l cs) {x : List UInt8} {Ax : Option Addr} {cx m : Nat} (hm : m = x.length) (hx : BCells w w.heap.size Ax x) (hlo : ∀ b ∈ blkOf Ax, base ≤ b ∧ b < w.heap.size ∧ b ∉ blkOf A) {gg cap : Nat}
    (hrow : w'.ownsRow base 36 1 (.slice (some ⟨gg, 0, none⟩) (n + 1) cap) (n + 1) (cs ++ [.slice Ax m cx]))
    (hgrow : w.grownBy w' (Value.slice A n c).ownBlock) (hat : (Value.slice A n c).ownBlock = some gg ∨ gg = w.heap.size) : LRow base w' (some ⟨gg, 0, none⟩) (n + 1) cap (l ++ [x]) (cs ++ [.slice Ax m cx]) := by
  subst hm
  have hKo : ∀ b, (Value.slice A n c).ownBlock = some b → b ∈ blkOf A := by
    intro b hb
    cases A with
    | none => simp [Value.ownBlock] at hb
    | some a =>
      simp only [Value.ownBlock, Option.some.injEq] at hb
      simp [blkOf, hb]
  have hkeep : ∀ b, b < w.heap.size → b ∉ blkOf A → w'.heap[b]? = w.heap[b]? := fun b hb hn => hgrow.block b hb (fun e => hn (hKo b e.symm))
  have hfar : ∀ b, b < w.heap.size → b ∉ blkOf A → b ∉ blkOf (some (⟨gg, 0, none⟩ : Addr)) := by
    intro b hb hn hm
    simp only [blkOf, List.mem_singleton] at hm
    rcases hat with e | e
    · exact hn (hm ▸ hKo gg e)
    · omega
  have hcl : cs.length = l.length := by
    have h1 := h.row.1
    rw [Nat.mul_one] at h1
    rw [h1, h.len]
  refine ⟨by rw [List.length_append, h.len]; rfl, hrow, fun k hk => ?_⟩
  by_cases hkl : k < l.length
  · obtain ⟨Ak, ck, e1, e2, e3⟩ := h.el k hkl
    refine ⟨Ak, ck, ?_, ?_, fun b hb => ⟨(e3 b hb).1, Nat.lt_of_lt_of_le (e3 b hb).2.1 hgrow.size, hfar b (e3 b hb).2.1 (e3 b hb).2.2⟩⟩
    · rw [List.getElem?_append_left (by omega), e1]
      rw [List.getElem_append_left hkl]
    · rw [List.getElem_append_left hkl]
      exact cells_block e2 (fun b hb => hkeep b (e3 b hb).2.1 (e3 b hb).2.2) hgrow.size
  · have hk' : k = l.length := by rw [List.length_append] at hk; simp at hk; omega
    subst hk'
    refine ⟨Ax, cx, ?_, ?_, fun b hb => ⟨(hlo b hb).1, Nat.lt_of_lt_of_le (hlo b hb).2.1 hgrow.size, hfar b (hlo b hb).2.1 (hlo b hb).2.2⟩⟩
    · rw [List.getElem?_append_right (by omega), hcl]
      simp
    · rw [List.getElem_append_right (Nat.le_refl _)]
      simp only [Nat.sub_self, List.getElem_cons_zero]
      exact cells_block hx (fun b hb => hkeep b (hlo b hb).2.1 (hlo b hb).2.2) hgrow.size
theorem LRow.lc (h : LRow base w A n c l cs) : LC w w.heap.size A l := fun hn => by
  have hn' : 0 < n := by rw [h.len]; exact hn
  obtain ⟨g, cap, hv, _, hlt⟩ := World.ownsRow.form h.row hn'
  injection hv with hA _ _
  subst hA
  refine ⟨g, 0, rfl, hlt, fun k hk => ?_⟩
  obtain ⟨Ak, ck, e1, e2, _⟩ := h.el k hk
  refine ⟨Ak, ck, ?_, e2⟩
  have := h.row.cells (g := g) rfl k _ e1
  rw [Addr.add_mid] at this
  exact this
end
end Go.Proofs.YtfceljbmdcbciaaDoor
