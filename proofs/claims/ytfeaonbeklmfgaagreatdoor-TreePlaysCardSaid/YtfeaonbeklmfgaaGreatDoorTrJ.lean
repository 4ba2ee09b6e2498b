/- What is done to a tree, plain and in memory; the statements' few, do and walked. No condition but those of size that they ask. -/
import Derived.Test.YtfeaonbeklmfgaaGreatDoorTrI
namespace Go.Proofs.YtfeaonbeklmfgaaGreatDoor
set_option maxRecDepth 8000
open Go.RowKit

namespace Tr
structure O where
  d : Int
  r : R
def doL (room : Nat) (l : List R) (o : O) : List R := if o.d = 1 then add room l o.r else if o.d = 2 then put l o.r else if o.d = 3 then drop l o.r.name else l
def doE (room : Nat) (l : List R) (o : O) : Nat := if o.d = 1 then addE room l o.r else if o.d = 2 then putE l o.r else 0
def gone (l : List R) (o : O) : List Nm := if o.d = 3 then below l o.r.name else []
def walk (room : Nat) (l : List R) (os : List O) : List R := os.foldl (doL room) l
def few (os : List O) : Bool := os.all (fun o => Rk.few o.r) && decide (os.length ≤ 60)
theorem Good.doL {room : Nat} {l : List R} (g : Good room l) (o : O) : Good room (Tr.doL room l o) := by
  unfold Tr.doL
  split
  · exact g.add o.r
  · split
    · exact g.put o.r
    · split
      · exact g.drop o.r.name
      · exact g
theorem Good.walk {room : Nat} : ∀ (os : List O) {l : List R}, Good room l → Good room (Tr.walk room l os)
  | [], _, g => g
  | o :: r, _, g => Good.walk r (g.doL o)
theorem walk_take (room : Nat) (l : List R) (os : List O) (k : Nat) (hk : k < os.length) : walk room l (os.take (k + 1)) = doL room (walk room l (os.take k)) os[k] := by
  unfold walk
  rw [List.take_succ_eq_append_getElem hk, List.foldl_append]
  rfl
theorem few_at {os : List O} (h : few os = true) (k : Nat) (hk : k < os.length) : Rk.Few os[k].r ∧ os.length ≤ 60 := by
  unfold few at h
  rw [Bool.and_eq_true] at h
  exact ⟨Rk.few_of (List.all_eq_true.1 h.1 _ (List.getElem_mem hk)), of_decide_eq_true h.2⟩
theorem few_bad {os : List O} {k : Nat} (hk : k < os.length) (h : Rk.few os[k].r = false) : few os = false := by
  unfold few
  have : os.all (fun o => Rk.few o.r) = false := by
    rw [List.all_eq_false]
    exact ⟨os[k], List.getElem_mem hk, by rw [h]; decide⟩
  rw [this]
  rfl
end Tr
/-- Ops in memory: eleven cells each. -/
def OIn (w : World) (B : Nat) (A : Option Addr) (os : List Tr.O) : Prop :=
  0 < os.length → ∃ b off, A = some ⟨b, off, none⟩ ∧ b < B ∧ ∀ k (hk : k < os.length), w.cell? ⟨b, off + k * 11, none⟩ = some (.int .i64 os[k].d) ∧ At10 w b (off + k * 11 + 1) os[k].r
theorem OIn.next {w w' : World} {A : Option Addr} {os : List Tr.O} (h : OIn w w.heap.size A os) (hb : Below w.heap.size w w') : OIn w' w'.heap.size A os := fun hn => by
  obtain ⟨b, off, e, hlt, hc⟩ := h hn
  exact ⟨b, off, e, Nat.lt_of_lt_of_le hlt hb.size, fun k hk => ⟨(hb.cell (p := ⟨b, off + k * 11, none⟩) hlt).trans (hc k hk).1, (hc k hk).2.keep hb hlt⟩⟩
set_option maxHeartbeats 1600000 in
theorem fewT_any (w : World) (A : Option Addr) (c : Nat) (os : List Tr.O) (h : OIn w w.heap.size A os) (hM : os.length ≤ 9223372036854775807) :
    Calls Tryz.prog 7 #[.slice A os.length c] w fun e w' => e = .returned (.bool (Tr.few os)) ∧ Below w.heap.size w w' := by
  have HC := Lib.hid h
  clear h
  go_enter Tryz.func7, Tryz.ntmps7
  go_wp2_with fail
  go_loopw [3] (fun iv wr => ∃ k : Nat, k ≤ os.length ∧ iv = .int .i64 k ∧ Below w.heap.size w wr ∧ (os.take k).all (fun o => Rk.few o.r) = true) (fun iv _ => os.length - (intOf iv).toNat)
  case atStart => exact ⟨0, Nat.zero_le _, rfl, Below.refl _ _, rfl⟩
  case round =>
    obtain ⟨k, hk, rfl, hb, hall⟩ := hrel
    have HA := Lib.hid hall
    have hbs := hb.size
    clear hall
    by_cases hlt : k < os.length
    · obtain ⟨gb, go, rfl, hgl, hcc⟩ := HC.out (by omega)
      have hat := (hcc k hlt).2.keep hb hgl
      have hkI : (k : Int) < (os.length : Int) := by omega
      have hk0 : (0 : Int) ≤ (k : Int) := by omega
      have HBAD := Lib.hid (fun h : Rk.few os[k].r = false => Tr.few_bad hlt h)
      have HST := Lib.hid (fun h : Rk.few os[k].r = true => show (os.take (k + 1)).all (fun o => Rk.few o.r) = true by
        rw [List.take_succ_eq_append_getElem hlt, List.all_append, HA.out]
        simp [h])
      have HLT := Lib.hid hlt
      generalize os[k].r = x at hat HBAD HST
      obtain ⟨d0, d1, d2, d3, d4, d5, d6, d7, d8, d9⟩ := hat
      have HF := Lib.hid (recFew_any x wr)
      obtain ⟨q, hq⟩ : ∃ q, q = Rk.few x := ⟨_, rfl⟩
      rw [← hq] at HF HBAD HST
      unfold recV at HF
      clear hcc hgl hq
      go_wp2_with fail
      refine HF.out.mono ?_
      rintro e w1 ⟨rfl, hb1⟩
      have hb2 := hb.trans (hb1.mono hbs)
      clear d0 d1 d2 d3 d4 d5 d6 d7 d8 d9 HF
      cases q with
      | false =>
        go_wp2_with fail
        go_ret
        exact ⟨ret_boolT (HBAD.out trivial).symm, hb2⟩
      | true =>
        go_wp2_with fail
        go_roundw
        case rel => exact ⟨k + 1, by have := HLT.out; omega, by go_num, hb2, HST.out trivial⟩
        case measure => have := HLT.out; simp [intOf]; omega
    · have hkn : k = os.length := by omega
      subst hkn
      have hfin : Tr.few os = decide ((os.length : Int) ≤ 60) := by
        have h1 := HA.out
        rw [List.take_of_length_le (Nat.le_refl _)] at h1
        unfold Tr.few
        rw [h1, Bool.true_and]
        congr 1
        exact propext ⟨fun h => by omega, fun h => by omega⟩
      have HFIN := Lib.hid hfin
      clear hfin
      go_wp2_with fail
      go_ret
      exact ⟨ret_boolT HFIN.out.symm, hb⟩
/-- An op's value. -/
def oV (o : Tr.O) : Value := .agg #[.int .i64 o.d, .int .i64 o.r.kind, .string (S o.r.name), .string (S o.r.parent), .string (S o.r.user), .string (S o.r.service), .string (S o.r.url), .int .i64 o.r.made, .int .i64 o.r.used, .int .i64 o.r.uses, .bool o.r.fresh]
def DoPost (G : Nat → Prop) (w : World) (T room : Nat) (l : List Rk.R) (o : Tr.O) (e : Ending) (w' : World) : Prop :=
  ∃ v, e = .returned (.tuple #[.int .i64 (Tr.doE room l o), v]) ∧ SRow w.heap.size w' v (Tr.gone l o) ∧ TreeAt (OrT G w.heap.size w'.heap.size) w' T room (Tr.doL room l o) ∧ OutT G w w'
theorem TreeAt.after {G : Nat → Prop} {w w1 w' : World} {T room : Nat} {l' : List Rk.R} (hb : Below w.heap.size w w1) (h : TreeAt (OrT G w1.heap.size w'.heap.size) w' T room l' ∧ OutT G w1 w') : TreeAt (OrT G w.heap.size w'.heap.size) w' T room l' ∧ OutT G w w' :=
  ⟨h.1.mono (fun _ hx => hx.imp id (fun h => ⟨Nat.le_trans hb.size h.1, h.2⟩)), (OutT.of (F := G) hb).trans h.2 (fun _ _ h => h) (fun _ _ h => h)⟩
set_option maxHeartbeats 1600000 in
theorem do_anyT {G : Nat → Prop} {w : World} {T room m : Nat} {l : List Rk.R} (o : Tr.O) (hg : Tr.Good m l) (h : TreeAt G w T room l) (hl : l.length ≤ 1000000) (hf : Rk.Few o.r) (hE : EnvT w) :
    Calls Tryz.prog 10 #[.pointer (some ⟨T, 0, none⟩), oV o] w (DoPost G w T room l o) := by
  obtain ⟨d, r⟩ := o
  unfold oV
  dsimp only at hf ⊢
  obtain ⟨wb, hwb⟩ : ∃ wb, wb = w.alloc (.cells #[.int .i64 d, .int .i64 r.kind, .string (S r.name), .string (S r.parent), .string (S r.user), .string (S r.service), .string (S r.url), .int .i64 r.made, .int .i64 r.used, .int .i64 r.uses, .bool r.fresh] 32) := ⟨_, rfl⟩
  have hbb : Below w.heap.size w wb := by rw [hwb]; exact (Below.refl _ _).alloc (Nat.le_refl _) _
  have hblk : wb.heap[w.heap.size]? = some (.cells #[.int .i64 d, .int .i64 r.kind, .string (S r.name), .string (S r.parent), .string (S r.user), .string (S r.service), .string (S r.url), .int .i64 r.made, .int .i64 r.used, .int .i64 r.uses, .bool r.fresh] 32 (0, 0)) := by rw [hwb]; exact heap_alloc_new w _
  have hTb := h.keep hbb
  have hEb := hE.next hbb
  have HADD := Lib.hid (add_any r hTb hl (by have := hf.nm; omega) (by have := hf.pa; omega) hEb)
  have HPUT := Lib.hid (put_any r hTb hl (by have := hf.nm; omega) (by have := hf.pa; omega) hEb)
  have HDROP := Lib.hid (drop_any r.name hg hTb hl)
  have HB := Lib.hid hbb
  have HT := Lib.hid hTb
  unfold recV at HADD HPUT
  have d0 := cell_of_row wb w.heap.size 0 _ _ _ hblk
  have d1 := cell_of_row wb w.heap.size 1 _ _ _ hblk
  have d2 := cell_of_row wb w.heap.size 2 _ _ _ hblk
  have d3 := cell_of_row wb w.heap.size 3 _ _ _ hblk
  have d4 := cell_of_row wb w.heap.size 4 _ _ _ hblk
  have d5 := cell_of_row wb w.heap.size 5 _ _ _ hblk
  have d6 := cell_of_row wb w.heap.size 6 _ _ _ hblk
  have d7 := cell_of_row wb w.heap.size 7 _ _ _ hblk
  have d8 := cell_of_row wb w.heap.size 8 _ _ _ hblk
  have d9 := cell_of_row wb w.heap.size 9 _ _ _ hblk
  have d10 := cell_of_row wb w.heap.size 10 _ _ _ hblk
  simp only [List.getElem?_toArray, List.getElem?_cons_succ, List.getElem?_cons_zero] at d0 d1 d2 d3 d4 d5 d6 d7 d8 d9 d10
  clear hbb hblk hTb hEb hg h hl hf hE
  go_enter Tryz.func10, Tryz.ntmps10
  go_upto_region 1 with fail
  rw [← hwb]
  clear hwb
  by_cases h1 : d = 1
  · subst h1
    go_wp2_with fail
    refine HADD.out.mono ?_
    rintro e w1 ⟨rfl, hr⟩
    have HR := Lib.hid (TreeAt.after HB.out hr)
    clear hr d0 d1 d2 d3 d4 d5 d6 d7 d8 d9 d10
    go_wp2_with fail
    go_ret2
    exact ⟨_, rfl, World.ownsRow_nil _ _ _ _, HR.out⟩
  by_cases h2 : d = 2
  · subst h2
    have k1 : ((2 : Int) == 1) = false := rfl
    go_wp2_with fail
    refine HPUT.out.mono ?_
    rintro e w1 ⟨rfl, hr⟩
    have HR := Lib.hid (TreeAt.after HB.out hr)
    clear hr d0 d1 d2 d3 d4 d5 d6 d7 d8 d9 d10
    go_wp2_with fail
    go_ret2
    exact ⟨_, rfl, World.ownsRow_nil _ _ _ _, HR.out⟩
  by_cases h3 : d = 3
  · subst h3
    have k1 : ((3 : Int) == 1) = false := rfl
    have k2 : ((3 : Int) == 2) = false := rfl
    go_wp2_with fail
    refine HDROP.out.mono ?_
    rintro e w1 ⟨v, rfl, hs, hr⟩
    have HR := Lib.hid (And.intro hs (TreeAt.after HB.out hr))
    clear hs hr d0 d1 d2 d3 d4 d5 d6 d7 d8 d9 d10
    go_wp2_with fail
    go_ret2
    exact ⟨_, rfl, own_base HR.out.1 (fun k hk => Nat.le_trans HB.out.size (World.ownsRow.lt HR.out.1 k hk).1), HR.out.2⟩
  · have k1 : (d == 1) = false := beq_eq_false_iff_ne.2 h1
    have k2 : (d == 2) = false := beq_eq_false_iff_ne.2 h2
    have k3 : (d == 3) = false := beq_eq_false_iff_ne.2 h3
    have HL : Hid (Tr.doL room l ⟨d, r⟩ = l ∧ Tr.doE room l ⟨d, r⟩ = 0 ∧ Tr.gone l ⟨d, r⟩ = []) := Lib.hid ⟨by unfold Tr.doL; rw [if_neg h1, if_neg h2, if_neg h3], by unfold Tr.doE; rw [if_neg h1, if_neg h2], by unfold Tr.gone; rw [if_neg h3]⟩
    clear h1 h2 h3
    go_wp2_with fail
    go_ret2
    refine ⟨.slice none 0 0, by rw [HL.out.2.1]; rfl, by rw [HL.out.2.2]; exact World.ownsRow_nil _ _ _ _, ?_⟩
    rw [HL.out.1]
    exact TreeAt.after HB.out ⟨HT.out.mono (fun _ h => .inl h), OutT.refl _ _⟩
set_option maxHeartbeats 1600000 in
theorem walkedT_any {w : World} (room : Int) (A : Option Addr) (c : Nat) (os : List Tr.O) (h : OIn w w.heap.size A os) (hf : Tr.few os = true) (hE : EnvT w) :
    Calls Tryz.prog 25 #[.int .i64 room, .slice A os.length c] w fun e w' => ∃ T, e = .returned (.pointer (some ⟨T, 0, none⟩)) ∧ TreeAt (fun x => w.heap.size ≤ x ∧ x < w'.heap.size) w' T (roomT room) (Tr.walk (roomT room) [] os) ∧ Below w.heap.size w w' := by
  have h60 : os.length ≤ 60 := by
    have h5 := hf
    unfold Tr.few at h5
    rw [Bool.and_eq_true] at h5
    exact of_decide_eq_true h5.2
  have HN := Lib.hid (new_anyT room w)
  have HO := Lib.hid h
  have HF := Lib.hid hf
  have HE := Lib.hid hE
  have HG := Lib.hid (fun k => (Tr.Good.walk (os.take k) (Tr.Good.nil (roomT room))))
  obtain ⟨rm, hrm⟩ : ∃ rm, rm = roomT room := ⟨_, rfl⟩
  have hr64 : rm ≤ 64 := by rw [hrm]; unfold roomT; split <;> omega
  rw [← hrm] at HN HG ⊢
  clear h hf hE hrm
  go_enter Tryz.func25, Tryz.ntmps25
  go_wp2_with fail
  refine HN.out.mono ?_
  rintro e w1 ⟨T, rfl, hT, hb1⟩
  have HT1 := Lib.hid hT
  have HB1 := Lib.hid hb1
  clear hT hb1 HN
  go_wp2_with fail
  go_loopw [6] (fun iv wr => ∃ k : Nat, k ≤ os.length ∧ iv = .int .i64 k ∧ TreeAt (fun x => w.heap.size ≤ x ∧ x < wr.heap.size) wr T rm (Tr.walk rm [] (os.take k)) ∧ Below w.heap.size w wr) (fun iv _ => os.length - (intOf iv).toNat)
  case atStart => exact ⟨0, Nat.zero_le _, rfl, HT1.out, HB1.out⟩
  case round =>
    obtain ⟨k, hk, rfl, hT, hb⟩ := hrel
    by_cases hlt : k < os.length
    · obtain ⟨gb, go, rfl, hgl, hcc⟩ := HO.out (by omega)
      have hx := hcc k hlt
      have h0 := (hb.cell (p := ⟨gb, go + k * 11, none⟩) hgl).trans hx.1
      have hat := hx.2.keep hb hgl
      have hkI : (k : Int) < (os.length : Int) := by omega
      have hk0 : (0 : Int) ≤ (k : Int) := by omega
      have hlen : (Tr.walk rm [] (os.take k)).length ≤ 1000000 := by have := (HG.out k).le; omega
      have HDO := Lib.hid (do_anyT os[k] (HG.out k) hT hlen (Tr.few_at HF.out k hlt).1 (HE.out.next hb))
      have HTK := Lib.hid (Tr.walk_take rm [] os k hlt)
      have HLT := Lib.hid hlt
      have HB := Lib.hid hb
      unfold oV at HDO
      generalize os[k] = o at h0 hat HDO HTK
      obtain ⟨d0, d1, d2, d3, d4, d5, d6, d7, d8, d9⟩ := hat
      clear hcc hx hT hb hlen hgl
      go_wp2_with fail
      refine HDO.out.mono ?_
      rintro e w2 ⟨v, rfl, hv, hT2, ho2⟩
      have HREL := Lib.hid (And.intro hT2 ho2)
      clear hv hT2 ho2 HDO h0 d0 d1 d2 d3 d4 d5 d6 d7 d8 d9
      go_wp2_with fail
      go_roundw
      case rel =>
        refine ⟨k + 1, by have := HLT.out; omega, by go_num, ?_, HB.out.trans (HREL.out.2.below (base := w.heap.size) (fun x _ h => h.1) HB.out.size)⟩
        rw [HTK.out]
        refine HREL.out.1.mono (fun x hx => ?_)
        have := HREL.out.2.size
        rcases hx with hx | hx
        · exact ⟨hx.1, by omega⟩
        · have := HB.out.size
          exact ⟨by omega, hx.2⟩
      case measure => have := HLT.out; simp [intOf]; omega
    · have hkn : k = os.length := by omega
      subst hkn
      rw [List.take_of_length_le (Nat.le_refl _)] at hT
      have HR := Lib.hid (And.intro hT hb)
      clear hT hb
      go_wp2_with fail
      go_ret
      exact ⟨T, rfl, HR.out⟩
end Go.Proofs.YtfeaonbeklmfgaaGreatDoor
