/- Encode: the document's. No condition but that changes lie in memory. Changes out of bytes, plain. No program stands in it. No condition. -/
import Derived.Test.YtoaihehoediegaaDoorMg07
import Derived.Test.YtoaihehoediegaaDoorMg04
namespace Go.Proofs.YtoaihehoediegaaDoor
set_option maxRecDepth 8000
open Go.RowKit

set_option maxHeartbeats 3200000 in
theorem kvRefEncode_any (w : World) (A : Option Addr) (n c : Nat) (l : List Kv.C) (hn : l.length = n) (h : ChIn w w.heap.size A l) (hl : n ≤ 20000) :
    Calls Tryd.prog 24 #[.slice A n c] w (EncP w (Kv.encode l)) := by
  have HN := Lib.hid hn
  have HW := Lib.hid h
  clear hn h
  go_enter Tryd.func24, Tryd.ntmps24
  go_wp2_with fail
  go_loopw [4, 5] (fun ov iv wr => ∃ (k : Nat) (A2 : Option Addr) (m c2 : Nat), k ≤ n ∧ iv = .int .i64 (k : Int) ∧ ov = .slice A2 m c2 ∧ m = (Kv.enc (l.take k)).length ∧ Row w.heap.size wr ov (Kv.enc (l.take k)) ∧ (l.take k).all Kv.right = true ∧ Below w.heap.size w wr) (fun _ iv _ => n - (intOf iv).toNat)
  case atStart => exact ⟨0, none, 0, 0, Nat.zero_le _, rfl, rfl, rfl, World.ownsRow_nil _ _ _ _, rfl, Below.refl _ _⟩
  case round =>
    obtain ⟨k, A2, m, c2, hk, rfl, rfl, hm, hrow, hall, hb⟩ := hrel
    by_cases hlt : k < n
    · have hkl : k < l.length := by have := HN.out; omega
      obtain ⟨b, off, rfl, hbl, hc⟩ := HW.out (by omega)
      obtain ⟨c0, c1, c2'⟩ := hc k hkl
      have d0 := (hb.cell (p := ⟨b, off + k * 3, none⟩) hbl).trans c0
      have d1 := (hb.cell (p := ⟨b, off + k * 3 + 1, none⟩) hbl).trans c1
      have d2 := (hb.cell (p := ⟨b, off + k * 3 + 2, none⟩) hbl).trans c2'
      have hkI : (k : Int) < (n : Int) := by omega
      have hk0 : (0 : Int) ≤ (k : Int) := by omega
      have HET := Lib.hid (Kv.enc_take hkl)
      have HAT := Lib.hid (all_take_succ hkl)
      have HBAD := Lib.hid (encode_bad hkl)
      obtain ⟨x, hx⟩ : ∃ x, x = l[k] := ⟨_, rfl⟩
      rw [← hx] at d0 d1 d2 HET HAT HBAD
      have HROW := Lib.hid hrow
      have HB := Lib.hid hb
      have HM := Lib.hid hm
      have HALL := Lib.hid hall
      have HRT : Hid (Calls Tryd.prog 68 #[.agg #[.string (S x.k), .string (S x.v), .bool x.g]] wr fun e w' => e = .returned (.bool (Kv.right x)) ∧ Below wr.heap.size wr w') := Lib.hid (kvRef_right_any wr x)
      have HCX : Hid (∀ w', Below wr.heap.size wr w' → w'.cell? ⟨b, off + k * 3, none⟩ = some (.string (S x.k)) ∧ w'.cell? ⟨b, off + k * 3 + 1, none⟩ = some (.string (S x.v)) ∧ w'.cell? ⟨b, off + k * 3 + 2, none⟩ = some (.bool x.g)) := Lib.hid (fun w' hb' => by
        have hblr : b < wr.heap.size := Nat.lt_of_lt_of_le hbl hb.size
        exact ⟨(hb'.cell (p := ⟨b, off + k * 3, none⟩) hblr).trans d0, (hb'.cell (p := ⟨b, off + k * 3 + 1, none⟩) hblr).trans d1, (hb'.cell (p := ⟨b, off + k * 3 + 2, none⟩) hblr).trans d2⟩)
      clear c0 c1 c2' hc hx hrow hb hm hall
      go_wp2_with fail
      refine HRT.out.mono ?_
      rintro _ wy ⟨rfl, hby⟩
      have HBY := Lib.hid hby
      obtain ⟨r0, r1, r2⟩ := HCX.out wy hby
      clear hby HRT d0 d1 d2
      cases hr : Kv.right x with
      | false =>
        have HE := Lib.hid (HBAD.out hr)
        clear hr
        go_wp2_with fail
        go_ret2
        rw [HE.out]
        exact ⟨HB.out.trans (HBY.out.mono HB.out.size), rfl⟩
      | true =>
        have HWR : Hid (Calls Tryd.prog 69 #[.agg #[.string (S x.k), .string (S x.v), .bool x.g]] wy (OwnB wy (Kv.one x))) := Lib.hid (kvOne_any wy x hr)
        have hol := (Kv.one_len hr).2
        have HR1 := Lib.hid hr
        clear hr
        go_wp2_with fail
        refine HWR.out.mono ?_
        rintro _ wz ⟨A5, c5, rfl, hrow5, hbz⟩
        have hbz2 := HBY.out.trans (hbz.mono HBY.out.size)
        have HROWZ := Lib.hid (own_below HROW.out hbz2 : Row w.heap.size wz (.slice A2 m c2) (Kv.enc (l.take k)))
        have HBC := Lib.hid (row_cells hrow5).bc
        have HBZ := Lib.hid (HB.out.trans (hbz2.mono HB.out.size))
        have hel := Kv.enc_len (l.take k) HALL.out
        have hkt : (l.take k).length ≤ k := by rw [List.length_take]; exact Nat.min_le_left _ _
        have HBD : Hid ((Kv.enc (l.take k)).length + (Kv.one x).length ≤ 16777216) := Lib.hid (by omega)
        clear hrow5 hbz hbz2 HWR r0 r1 r2 hel hkt
        go_wp2_with (at_builtin; refine wpList_append_bytes ?hw1 (.tmp 20) (.tmp 25) rfl w.heap.size (.slice A2 m c2) A5 c5 (Kv.one x).length (Kv.enc (l.take k)) (Kv.one x) rfl rfl rfl HROWZ.out HBC.out HBD.out HBZ.out.size ?_; rotate_right; intro v6 w6 hown6 hgrow6)
        rw [← HET.out] at hown6
        have hb6 : Below w.heap.size w w6 := HBZ.out.grown hgrow6 HBZ.out.size (fun q hq => (World.ownsRow.lt HROWZ.out q hq).1)
        obtain ⟨A6, c6, rfl, _⟩ := hown6.form
        have HR6 := Lib.hid hown6
        have HB6 := Lib.hid hb6
        clear hown6 hgrow6 hb6
        go_wp2_with fail
        go_roundw
        case rel => exact ⟨k + 1, A6, _, c6, by omega, by go_num, rfl, rfl, HR6.out, by rw [HAT.out, HALL.out, HR1.out]; rfl, HB6.out⟩
        case measure => simp [intOf]; omega
    · have hkI : ¬ (k : Int) < (n : Int) := by omega
      have hkn : l.take k = l := List.take_of_length_le (by have := HN.out; omega)
      rw [hkn] at hm hrow hall
      have HE : Hid (Kv.encode l = if 4000 < m then .error 2 else .ok (Kv.enc l)) := Lib.hid (by unfold Kv.encode; rw [if_pos hall, hm])
      have HROW := Lib.hid hrow
      have HB := Lib.hid hb
      have HM := Lib.hid hm
      clear hm hrow hall hb hkn
      by_cases h4 : 4000 < m
      · have h4I : (4000 : Int) < (m : Int) := by omega
        go_wp2_with fail
        go_ret2
        rw [HE.out, if_pos h4]
        exact ⟨HB.out, rfl⟩
      · have h4I : ¬ (4000 : Int) < (m : Int) := by omega
        go_wp2_with fail
        go_ret2
        rw [HE.out, if_neg h4]
        exact ⟨HB.out, A2, c2, by rw [HM.out]; rfl, by rw [← HM.out]; exact HROW.out⟩
end Go.Proofs.YtoaihehoediegaaDoor
namespace Go.Proofs.YtoaihehoediegaaDoor
set_option maxRecDepth 8000
namespace Kv
/-- The change that bytes begin with, by the lengths told there, and how many bytes it has. -/
def first (b : Bytes) : Option (C × Nat) :=
  if b.length < (b.getD 0 0).toNat + 3 then none else
  let n := 256 * (b.getD ((b.getD 0 0).toNat + 1) 0).toNat + (b.getD ((b.getD 0 0).toNat + 2) 0).toNat
  if n = 65535 then some (⟨(b.drop 1).take (b.getD 0 0).toNat, [], true⟩, (b.getD 0 0).toNat + 3) else
  if b.length < (b.getD 0 0).toNat + 3 + n then none else
  some (⟨(b.drop 1).take (b.getD 0 0).toNat, (b.drop ((b.getD 0 0).toNat + 3)).take n, false⟩, (b.getD 0 0).toNat + 3 + n)
theorem first_len {b : Bytes} {c : C} {n : Nat} (h : first b = some (c, n)) : 3 ≤ n ∧ n ≤ b.length := by
  unfold first at h
  split at h
  · cases h
  · next h1 =>
    dsimp only at h
    split at h
    · injection h with h
      injection h with _ h
      omega
    · split at h
      · cases h
      · next h2 =>
        injection h with h
        injection h with _ h
        omega
def decF : Nat → Bytes → Option (List C)
  | 0, _ => some []
  | f + 1, b => if b = [] then some [] else match first b with
    | none => none
    | some (c, n) => if right c then (decF f (b.drop n)).map (c :: ·) else none
theorem decF_nil : ∀ f, decF f [] = some []
  | 0 => rfl
  | _ + 1 => if_pos rfl
theorem decF_more : ∀ (f g : Nat) (b : Bytes), b.length ≤ f → b.length ≤ g → decF f b = decF g b
  | 0, g, b, hf, _ => by
    have hb : b = [] := List.eq_nil_of_length_eq_zero (by omega)
    rw [hb, decF_nil, decF_nil]
  | f + 1, 0, b, _, hg => by
    have hb : b = [] := List.eq_nil_of_length_eq_zero (by omega)
    rw [hb, decF_nil, decF_nil]
  | f + 1, g + 1, b, hf, hg => by
    by_cases hb : b = []
    · rw [hb, decF_nil, decF_nil]
    · show (if b = [] then some [] else _) = (if b = [] then some [] else _)
      rw [if_neg hb, if_neg hb]
      cases h : first b with
      | none => rfl
      | some q =>
        obtain ⟨c, n⟩ := q
        have hl := first_len h
        dsimp only
        rw [decF_more f g (b.drop n) (by rw [List.length_drop]; omega) (by rw [List.length_drop]; omega)]
/-- Decode, but for the bound on its bytes. -/
def dec (b : Bytes) : Option (List C) := decF b.length b
theorem dec_nil : dec [] = some [] := rfl
theorem dec_step {b : Bytes} (hb : b ≠ []) : dec b = match first b with
    | none => none
    | some (c, n) => if right c then (dec (b.drop n)).map (c :: ·) else none := by
  unfold dec
  cases hl : b.length with
  | zero => exact absurd (List.eq_nil_of_length_eq_zero hl) hb
  | succ m =>
    show (if b = [] then some [] else _) = _
    rw [if_neg hb]
    cases h : first b with
    | none => rfl
    | some q =>
      obtain ⟨c, n⟩ := q
      have h3 := first_len h
      dsimp only
      rw [decF_more m (b.drop n).length (b.drop n) (by rw [List.length_drop]; omega) (Nat.le_refl _)]
/-- Decode. -/
def decode (b : Bytes) : Except Nat (List C) := if 4000 < b.length then .error 8 else match dec b with
  | none => .error 8
  | some l => .ok l
/-- What is read behind what was read. -/
structure Run (b : Bytes) (k : Nat) (acc : List C) : Prop where
  le : k ≤ b.length
  is : dec b = (dec (b.drop k)).map (acc ++ ·)
theorem Run.start (b : Bytes) : Run b 0 [] := ⟨Nat.zero_le _, by
  rw [List.drop_zero]
  cases dec b with
  | none => rfl
  | some l => simp⟩
theorem Run.next {b : Bytes} {k : Nat} {acc : List C} (h : Run b k acc) (hk : k < b.length) {c : C} {n : Nat} (hf : first (b.drop k) = some (c, n)) (hr : right c = true) : Run b (k + n) (acc ++ [c]) := by
  have hl := first_len hf
  rw [List.length_drop] at hl
  refine ⟨by omega, ?_⟩
  have hne : b.drop k ≠ [] := fun e => by have := congrArg List.length e; rw [List.length_drop, List.length_nil] at this; omega
  rw [h.is, dec_step hne, hf]
  dsimp only
  rw [if_pos hr, List.drop_drop]
  cases dec (b.drop (k + n)) with
  | none => rfl
  | some l => simp
theorem Run.none_first {b : Bytes} {k : Nat} {acc : List C} (h : Run b k acc) (hk : k < b.length) (hf : first (b.drop k) = none) : dec b = none := by
  have hne : b.drop k ≠ [] := fun e => by have := congrArg List.length e; rw [List.length_drop, List.length_nil] at this; omega
  rw [h.is, dec_step hne, hf]
  rfl
theorem Run.none_right {b : Bytes} {k : Nat} {acc : List C} (h : Run b k acc) (hk : k < b.length) {c : C} {n : Nat} (hf : first (b.drop k) = some (c, n)) (hr : right c = false) : dec b = none := by
  have hne : b.drop k ≠ [] := fun e => by have := congrArg List.length e; rw [List.length_drop, List.length_nil] at this; omega
  rw [h.is, dec_step hne, hf]
  dsimp only
  rw [hr]
  rfl
theorem Run.done {b : Bytes} {acc : List C} (h : Run b b.length acc) : dec b = some acc := by
  rw [h.is, List.drop_length, dec_nil]
  simp
end Kv
end Go.Proofs.YtoaihehoediegaaDoor
