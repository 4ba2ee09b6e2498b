/- The document's Put of package frame, for any bytes. Changes as bytes, plain. No program stands in it. No condition. -/
import Derived.Test.YtfceljbmdcbciaaDoorMg03
import Derived.Deep.DeepCutAuto
namespace Go.Proofs.YtfceljbmdcbciaaDoor
set_option maxRecDepth 8000
open Go.RowKit

theorem own_below {w w' : World} {base : Nat} {e : TypeId} {size : Nat} {v : Value} {n : Nat} {xs : List Value} (h : w.ownsRow base e size v n xs) (hb : Below w.heap.size w w') : w'.ownsRow base e size v n xs := by
  refine ⟨h.1, ?_⟩
  rcases h.2 with h1 | ⟨g, cap, cur, hv, hbase, hg, hr⟩
  · exact .inl h1
  · refine .inr ⟨g, cap, cur, hv, hbase, ?_, hr⟩
    rw [hb.block g]
    · exact hg
    · rcases Nat.lt_or_ge g w.heap.size with hlt | hge
      · exact hlt
      · rw [Array.getElem?_eq_none hge] at hg; cases hg
theorem row_made (w : World) (base : Nat) (hb : base ≤ w.heap.size) (l : List UInt8) (hl : l.length ≤ 1048576) (g n : Nat) (hg : g = w.heap.size) (hn : n = l.length) : Row base (w.alloc (.cells (l.map B).toArray 5)) (.slice (some ⟨g, 0, none⟩) n n) l := by
  subst hg hn
  refine ⟨by simp, .inr ⟨w.heap.size, l.length, (l.map B).toArray, rfl, hb, heap_alloc_new w _, Nat.le_refl _, by unfold maxLen; omega, by simp, ?_⟩⟩
  rw [Nat.mul_one, List.take_of_length_le (by simp)]
theorem row_cells {base : Nat} {w : World} {A : Option Addr} {n c : Nat} {l : List UInt8} (h : Row base w (.slice A n c) l) : BCells w w.heap.size A l := fun hn => by
  obtain ⟨A', c', hv, hbc, hlo⟩ := h.form
  injection hv with hv _ _
  subst hv
  obtain ⟨b, off, rfl, hc⟩ := hbc hn
  exact ⟨b, off, rfl, (hlo _ rfl).2.1, hc⟩
theorem row_len {base : Nat} {w : World} {A : Option Addr} {n c : Nat} {l : List UInt8} (h : Row base w (.slice A n c) l) : n = l.length := by
  obtain ⟨A', c', hv, _⟩ := h.form
  injection hv
/-- What Put tells. -/
def PutPost (r : Except Nat (List UInt8)) (w : World) (e : Ending) (w' : World) : Prop :=
  Below w.heap.size w w' ∧ match r with
  | .error k => e = .returned (.tuple #[.slice none 0 0, .int .i64 (k : Int)])
  | .ok f => ∃ A c, e = .returned (.tuple #[.slice A f.length c, .int .i64 0]) ∧ Row w.heap.size w' (.slice A f.length c) f
def scaleOf : Nat → Nat
  | 0 => 16777216
  | 1 => 65536
  | 2 => 256
  | 3 => 1
  | _ => 0
theorem be4_byte (s j : Nat) (hj : j < 4) : (Fr.be4 s)[j]'(by simp [Fr.be4]; omega) = UInt8.ofNat (s / scaleOf j) := by
  match j, hj with
  | 0, _ => rfl
  | 1, _ => rfl
  | 2, _ => rfl
  | 3, _ => show UInt8.ofNat s = UInt8.ofNat (s / 1); rw [Nat.div_one]
theorem scale_next (j : Nat) (hj : j < 4) : scaleOf j / 256 = scaleOf (j + 1) ∧ 0 < scaleOf j ∧ scaleOf j ≤ 16777216 := by
  match j, hj with
  | 0, _ => exact ⟨rfl, by decide, by decide⟩
  | 1, _ => exact ⟨rfl, by decide, by decide⟩
  | 2, _ => exact ⟨rfl, by decide, by decide⟩
  | 3, _ => exact ⟨rfl, by decide, by decide⟩
def PutRel (w : World) (n s : Nat) (ov sv : Value) (wr : World) : Prop :=
  ∃ (j : Nat) (A : Option Addr) (c : Nat), j ≤ 4 ∧ sv = U (scaleOf j) ∧ ov = .slice A (2 + j) c ∧ Row w.heap.size wr (.slice A (2 + j) c) (Fr.be2 n ++ (Fr.be4 s).take j) ∧ Below w.heap.size w wr

set_option maxHeartbeats 1600000 in
theorem refPut_any (A : Option Addr) (c n : Nat) (l : List UInt8) (w : World) (hn : l.length = n) (hb : BCells w w.heap.size A l) (hl : n ≤ 9223372036854775807) :
    Calls Tryd.prog 52 #[.slice A n c] w (PutPost (Fr.put l) w) := by
  by_cases h0 : n = 0
  · have hP : Fr.put l = .error 1 := by unfold Fr.put; rw [if_pos (by omega)]
    rw [hP]
    subst h0
    go_enter Tryd.func52, Tryd.ntmps52
    go_wp2_with fail
    go_ret2
    exact ⟨Below.refl _ _, rfl⟩
  by_cases h4 : 4000 < n
  · have hP : Fr.put l = .error 2 := by unfold Fr.put; rw [if_neg (by omega), if_pos (by omega)]
    rw [hP]
    have e0 : ((n : Int) == 0) = false := by simp; omega
    have e1 : (4000 : Int) < (n : Int) := by omega
    go_enter Tryd.func52, Tryd.ntmps52
    go_wp2_with fail
    go_ret2
    exact ⟨Below.refl _ _, rfl⟩
  · have hP : Fr.put l = .ok (Fr.frame l) := by unfold Fr.put; rw [if_neg (by omega), if_neg (by omega)]
    rw [hP]
    have e0 : ((n : Int) == 0) = false := by simp; omega
    have e1 : ¬ (4000 : Int) < (n : Int) := by omega
    have hbytes : (.cells #[.int .u8 ((n : Int) / 256), .int .u8 ((n : Int) % 256)] 5 (0, 0) : Obj) = .cells ((Fr.be2 n).map B).toArray 5 (0, 0) := by
      have h1 : ((n : Int) / 256) = ((UInt8.ofNat (n / 256)).toNat : Int) := by rw [UInt8.toNat_ofNat']; omega
      have h2 : ((n : Int) % 256) = ((UInt8.ofNat n).toNat : Int) := by rw [UInt8.toNat_ofNat']; omega
      rw [h1, h2]
      rfl
    have HBY := Lib.hid hbytes
    have HN := Lib.hid hn
    obtain ⟨s, hs⟩ : ∃ s, s = Cr.sum (Fr.be2 n ++ l) := ⟨_, rfl⟩
    have hsl : s < 4294967296 := by rw [hs]; exact Cr.sum_lt _
    have HF : Hid (Fr.frame l = Fr.be2 n ++ (Fr.be4 s ++ l)) := Lib.hid (by unfold Fr.frame; rw [hn, hs])
    have HS := Lib.hid hs
    clear hbytes hn hs hP
    go_enter Tryd.func52, Tryd.ntmps52
    go_upto_region 7 with (fail)
    rw [HBY.out]
    obtain ⟨w2, hw2⟩ : ∃ w2, w2 = w.alloc (.cells ((Fr.be2 n).map B).toArray 5 (0, 0)) := ⟨_, rfl⟩
    obtain ⟨g, hg⟩ : ∃ g, g = w.heap.size := ⟨_, rfl⟩
    have hrow2 : Row w.heap.size w2 (.slice (some ⟨g, 0, none⟩) 2 2) (Fr.be2 n) := by rw [hw2]; exact row_made w _ (Nat.le_refl _) _ (by simp [Fr.be2]) g 2 hg rfl
    have hb2 : Below w.heap.size w w2 := by rw [hw2]; exact (Below.refl _ _).alloc (Nat.le_refl _) _
    have hg2 : g < w2.heap.size := by rw [hw2, hg]; simp
    have hgw : w.heap.size ≤ g := by omega
    rw [← hw2, ← hg]
    clear hw2 hg
    have hb3 : Below w2.heap.size w2 (w2.alloc (.cells #[] 5)) := (Below.refl _ _).alloc (Nat.le_refl _) _
    have hown0 := row_none w2 w2.heap.size (Nat.le_refl _) w2.heap.size rfl
    have hbc2 : BC (w2.alloc (.cells #[] 5)) (some ⟨g, 0, none⟩) (Fr.be2 n) := by
      obtain ⟨A', c', hv, hbc, _⟩ := Row.form (base := w.heap.size) (own_below hrow2 hb3)
      injection hv with hv _ _
      rw [hv]
      exact hbc
    have hA3 : BCells (w2.alloc (.cells #[] 5)) w.heap.size A l := hb.below (hb2.trans (hb3.mono hb2.size))
    obtain ⟨n2, hn2⟩ : ∃ n2 : Nat, n2 = 2 := ⟨_, rfl⟩
    rw [show Value.slice (some ⟨g, 0, none⟩) 2 2 = Value.slice (some ⟨g, 0, none⟩) n2 2 by rw [hn2]]
    have HN2 : Hid ((Fr.be2 n).length = n2) := Lib.hid (by rw [hn2]; rfl)
    have HNN := Lib.hid hn2
    clear hn2
    have tok1 : True := trivial
    have tok2 : True := trivial
    go_wp2_with (first
      | (at_builtin; have _t := tok1; refine wpList_append_bytes ?hw1 (.tmp 21) (.tmp 22) rfl w2.heap.size (.slice (some ⟨w2.heap.size, 0, none⟩) 0 0) (some ⟨g, 0, none⟩) 2 n2 [] (Fr.be2 n) rfl HN2.out rfl hown0 hbc2 (by simp [Fr.be2]) (by simp) ?_; rotate_right; intro v5 w5 hown5 hgrow5; have hb5 : Below w2.heap.size w2 w5 := hb3.grown hgrow5 (by simp) (fun k hk => (World.ownsRow.lt hown0 k hk).1); have hA5 : BC w5 A l := (hb.below (hb2.trans (hb5.mono hb2.size))).bc; clear tok1)
      | (at_builtin; have _t := tok2; have _h := hown5; refine wpList_append_bytes ?hw2 (.tmp 23) (.tmp 24) rfl w2.heap.size v5 A c n ([] ++ Fr.be2 n) l rfl HN.out rfl hown5 hA5 (by have := HN.out; simp [Fr.be2]; omega) hb5.size ?_; rotate_right; intro v6 w6 hown6 hgrow6; have hb6 : Below w2.heap.size w2 w6 := hb5.grown hgrow6 hb5.size (fun k hk => (World.ownsRow.lt hown5 k hk).1); clear tok2 hgrow6))
    obtain ⟨A6, c6, hv6, hA6, hlo6⟩ := hown6.form
    subst hv6
    have hz6 : ([] ++ Fr.be2 n ++ l : List UInt8) = Fr.be2 n ++ l := by rw [List.nil_append]
    rw [hz6] at hown6 ⊢
    have hzl : (Fr.be2 n ++ l).length ≤ 9223372036854775807 := by have := HN.out; simp [Fr.be2]; omega
    have HOF := Lib.hid (refOf_any A6 _ _ c6 w6 rfl hzl (row_cells hown6))
    rw [← HS.out] at HOF
    refine HOF.out.mono ?_
    rintro _ w7 ⟨rfl, hb7⟩
    have hb27 := hb6.trans (hb7.mono hb6.size)
    have hrow7 : Row w.heap.size w7 (.slice (some ⟨g, 0, none⟩) 2 2) (Fr.be2 n) := own_below hrow2 hb27
    have hbw7 := hb2.trans (hb27.mono hb2.size)
    have HR7 := Lib.hid hrow7
    obtain ⟨i0, hi0, hz0, hz1, hz2⟩ := info_parts Tryd.infoByte
    clear hown6 hb6 hb27 hb7 hA6 hlo6 hown5 hb5 hA5 hown0 hbc2 hA3 hb3 hrow2 hrow7 hgrow5 hzl HOF hb2
    go_wp2_with fail
    go_loopw [5, 7] (fun ov sv wr => PutRel w n s ov sv wr) (fun _ sv _ => (intOf sv).toNat)
    case atStart => exact ⟨0, some ⟨g, 0, none⟩, 2, by omega, rfl, by rw [HNN.out], by rw [List.take_zero, List.append_nil]; exact HR7.out, hbw7⟩
    case round =>
      obtain ⟨j, A', c', hj, rfl, rfl, hrow, hbe⟩ := hrel
      by_cases hj4 : j < 4
      · obtain ⟨hs1, hs2, hs3⟩ := scale_next j hj4
        have hbyte := be4_byte s j hj4
        have htk : (Fr.be4 s).take (j + 1) = (Fr.be4 s).take j ++ [UInt8.ofNat (s / scaleOf j)] := by
          rw [← hbyte]
          exact List.take_succ_eq_append_getElem _
        obtain ⟨sc, hsc⟩ : ∃ sc, sc = scaleOf j := ⟨_, rfl⟩
        obtain ⟨sc2, hsc2⟩ : ∃ sc, sc = scaleOf (j + 1) := ⟨_, rfl⟩
        rw [← hsc] at hs1 hs2 hs3 htk ⊢
        rw [← hsc2] at hs1
        have hlen : (Fr.be2 n ++ (Fr.be4 s).take j).length = 2 + j := by
          rw [List.length_append, List.length_take]
          show 2 + min j 4 = 2 + j
          omega
        have hown : wr.ownsRow w.heap.size 5 1 (.slice A' (2 + j) c') (2 + j) ((Fr.be2 n ++ (Fr.be4 s).take j).map B) := by
          have h := hrow
          unfold Row at h
          rwa [hlen] at h
        have hbv : ((s : Int) / (sc : Int)) % 256 = ((UInt8.ofNat (s / sc)).toNat : Int) := by
          rw [UInt8.toNat_ofNat', ← Int.natCast_ediv]
          omega
        have HTK := Lib.hid htk
        have HLEN := Lib.hid hlen
        have hlo := fun k (hk : (Value.slice A' (2 + j) c').ownBlock = some k) => (World.ownsRow.lt hown k hk).1
        have HSC2 := Lib.hid hsc2
        have HBV := Lib.hid hbv
        have hn1 : ((sc : Int) / 256) = (sc2 : Int) := by omega
        have h63 : 2 + j + 1 ≤ maxLen := by unfold maxLen; omega
        have hp1 : (0 : Int) < (sc : Int) := by omega
        have hp2 : ((sc : Int) == 0) = false := by simp; omega
        have HM : Hid (sc2 < sc) := Lib.hid (by omega)
        have hH := hbe.size
        clear hrow hbyte htk hlen hs1 hsc hsc2 hbv
        go_wp2_with (at_builtin; refine wpList_append_lies _ rfl (.tmp 31) (.tmp 37) _ rfl w.heap.size 5 i0 _ 1 1 Tryd.underlying36 hi0 hz0 hz1 hz2 rfl (by omega) _ (2 + j) _ rfl (hown.alloc _) ⟨wr.heap.size, 0, none⟩ 1 1 [_] rfl rfl (World.news_of_block (cs := #[_]) (t := 5) (fr := (0, 0)) (heap_alloc_new wr _)) (by simp [Value.oneCell']) (by omega) h63 (by omega) (by simp; omega) (wr.heap.size + 1) (by simp) ?_; intro gg cp w9 hown9 hgrow9 hat9 hlt9)
        have hfin : Row w.heap.size w9 (.slice (some ⟨gg, 0, none⟩) (2 + j + 1) cp) (Fr.be2 n ++ (Fr.be4 s).take (j + 1)) := by
          unfold Row
          rw [HTK.out, ← List.append_assoc, List.map_append, List.length_append, HLEN.out]
          have h := hown9
          rw [HBV.out] at h
          exact h
        have hbe9 := (hbe.alloc hH _).grown hgrow9 (by simp; omega) hlo
        have HFIN := Lib.hid hfin
        clear hown9 hgrow9 hfin hat9 hown
        go_roundw
        case rel => exact ⟨j + 1, some ⟨gg, 0, none⟩, cp, by omega, by rw [← HSC2.out], rfl, HFIN.out, hbe9⟩
        case measure => have := HM.out; simp [intOf]; omega
      · obtain rfl : j = 4 := by omega
        have hA9 : BC wr A l := (hb.below hbe).bc
        have hH := hbe.size
        rw [show scaleOf 4 = 0 from rfl]
        rw [show (Fr.be4 s).take 4 = Fr.be4 s from rfl] at hrow
        go_wp2_with (at_builtin; refine wpList_append_bytes ?hw3 (.tmp 39) (.tmp 40) rfl w.heap.size (.slice A' (2 + 4) c') A c n (Fr.be2 n ++ Fr.be4 s) l rfl HN.out rfl hrow hA9 (by have := HN.out; simp [Fr.be2, Fr.be4]; omega) hH ?_; rotate_right; intro v9 w9 hown9 hgrow9)
        have hbe9 := hbe.grown hgrow9 hH (fun k hk => (World.ownsRow.lt hrow k hk).1)
        obtain ⟨A9, c9, hv9, _⟩ := hown9.form
        subst hv9
        rw [List.append_assoc, ← HF.out] at hown9 ⊢
        go_ret2
        exact ⟨hbe9, A9, c9, rfl, hown9⟩
end Go.Proofs.YtfceljbmdcbciaaDoor
namespace Go.Proofs.YtfceljbmdcbciaaDoor
set_option maxRecDepth 8000
namespace Kv
abbrev Bytes := List UInt8
/-- A change: its key, its value, whether it is gone. -/
structure C where
  k : Bytes
  v : Bytes
  g : Bool
instance : DecidableEq C := fun a b => decidable_of_iff (a.k = b.k ∧ a.v = b.v ∧ a.g = b.g) ⟨fun h => by cases a; cases b; simp_all, fun h => by subst h; exact ⟨rfl, rfl, rfl⟩⟩
instance : Inhabited C := ⟨⟨[], [], false⟩⟩
def right (c : C) : Bool := decide (1 ≤ c.k.length) && (decide (c.k.length ≤ 64) && (decide (c.v.length ≤ 300) && (!c.g || decide (c.v = []))))
def tail (c : C) : Bytes := if c.g then [255, 255] else UInt8.ofNat (c.v.length / 256) :: UInt8.ofNat (c.v.length % 256) :: c.v
def one (c : C) : Bytes := UInt8.ofNat c.k.length :: (c.k ++ tail c)
def enc (l : List C) : Bytes := l.flatMap one
/-- Encode. -/
def encode (l : List C) : Except Nat Bytes := if l.all right then (if 4000 < (enc l).length then .error 2 else .ok (enc l)) else .error 1
theorem right_of {c : C} (h : right c = true) : 1 ≤ c.k.length ∧ c.k.length ≤ 64 ∧ c.v.length ≤ 300 ∧ (c.g = true → c.v = []) := by
  unfold right at h
  simp only [Bool.and_eq_true, decide_eq_true_eq, Bool.or_eq_true, Bool.not_eq_true'] at h
  refine ⟨h.1, h.2.1, h.2.2.1, fun hg => ?_⟩
  rcases h.2.2.2 with h1 | h1
  · rw [hg] at h1; cases h1
  · exact h1
theorem tail_len (c : C) (h : right c = true) : (tail c).length ≤ 302 := by
  obtain ⟨_, _, h3, _⟩ := right_of h
  unfold tail
  split
  · simp
  · simp; omega
theorem one_len {c : C} (h : right c = true) : 3 ≤ (one c).length ∧ (one c).length ≤ 400 := by
  obtain ⟨h1, h2, h3, _⟩ := right_of h
  have ht := tail_len c h
  have h2' : 2 ≤ (tail c).length := by
    unfold tail
    split
    · simp
    · simp
  unfold one
  rw [List.length_cons, List.length_append]
  omega
theorem enc_nil : enc [] = [] := rfl
theorem enc_snoc (l : List C) (c : C) : enc (l ++ [c]) = enc l ++ one c := by simp [enc]
theorem enc_cons (c : C) (l : List C) : enc (c :: l) = one c ++ enc l := by simp [enc]
theorem enc_take {l : List C} {k : Nat} (hk : k < l.length) : enc (l.take (k + 1)) = enc (l.take k) ++ one l[k] := by
  rw [List.take_succ_eq_append_getElem hk, enc_snoc]
theorem enc_len : ∀ (l : List C), l.all right = true → (enc l).length ≤ 400 * l.length
  | [], _ => Nat.zero_le _
  | c :: r, h => by
    rw [List.all_cons, Bool.and_eq_true] at h
    have h1 := one_len h.1
    have h2 := enc_len r h.2
    rw [enc_cons, List.length_append, List.length_cons]
    omega
end Kv
end Go.Proofs.YtfceljbmdcbciaaDoor
