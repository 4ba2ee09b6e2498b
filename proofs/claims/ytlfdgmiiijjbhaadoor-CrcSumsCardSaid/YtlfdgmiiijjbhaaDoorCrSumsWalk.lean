/- What the statement on sums of three texts answers, for any three slices of bytes, where the table reads as its text lays it: true. -/
import Derived.Test.YtlfdgmiiijjbhaaDoorCrPartsWalk
import Derived.BigRegion
namespace Go.Proofs.YtlfdgmiiijjbhaaDoor
set_option maxRecDepth 8000
open Go.RowKit

/-- The slice at A is a row of the call's own, in block 'base' or later, that holds l. -/
def RowZ (base : Nat) (w : World) (A : Option Addr) (l : List UInt8) : Prop :=
  0 < l.length → ∃ g cur, A = some ⟨g, 0, none⟩ ∧ base ≤ g ∧ w.heap[g]? = some (.cells cur 5 (0, 0)) ∧ l.length ≤ cur.size ∧ cur.toList.take l.length = l.map B
theorem Row.rowz {base : Nat} {w : World} {A : Option Addr} {n cap : Nat} {l : List UInt8} (h : Row base w (.slice A n cap) l) : RowZ base w A l := fun hn => by
  rcases h.2 with ⟨h1, h2⟩ | ⟨g, cap', cur, h1, hb, hg, hnc, _, hsz, ht⟩
  · omega
  · injection h1 with e1 _ _
    exact ⟨g, cur, e1, hb, hg, by omega, by simpa using ht⟩
theorem row_cell {w : World} {g : Nat} {cur : Array Value} {l : List UInt8} (hg : w.heap[g]? = some (.cells cur 5 (0, 0))) (ht : cur.toList.take l.length = l.map B) (k : Nat) (hk : k < l.length) : w.cell? ⟨g, k, none⟩ = some (B l[k]) := by
  rw [cell_of_row w g k cur 5 (0, 0) hg]
  have h1 : (cur.toList.take l.length)[k]? = some (B l[k]) := by rw [ht]; simp [hk]
  rw [List.getElem?_take_of_lt hk] at h1
  simpa using h1
theorem RowZ.bc {base : Nat} {w : World} {A : Option Addr} {l : List UInt8} (h : RowZ base w A l) : BC w A l := fun hn => by
  obtain ⟨g, cur, rfl, _, hg, _, ht⟩ := h hn
  exact ⟨g, 0, rfl, fun k hk => by rw [Nat.zero_add]; exact row_cell hg ht k hk⟩
theorem row_frozen {w : World} {g : Nat} {cur : Array Value} (hg : w.heap[g]? = some (.cells cur 5 (0, 0))) (k : Nat) : w.frozen? ⟨g, k, none⟩ = false := by
  simp [World.frozen?, hg]
theorem row_set {base : Nat} {w : World} {g : Nat} {cur : Array Value} {l : List UInt8} (hb : base ≤ g) (hg : w.heap[g]? = some (.cells cur 5 (0, 0))) (hs : l.length ≤ cur.size) (ht : cur.toList.take l.length = l.map B) (k : Nat) (c : UInt8) :
    RowZ base (w.setCell ⟨g, k, none⟩ (B c)) (some ⟨g, 0, none⟩) (l.set k c) := fun _ => by
  refine ⟨g, cur.setIfInBounds k (B c), rfl, hb, ?_, by simpa using hs, ?_⟩
  · simp [World.setCell, Array.getElem?_modify, hg]
  · rw [List.length_set, Array.toList_setIfInBounds, List.take_set, ht, List.map_set]
theorem x3_snoc : ∀ (k : Nat) (a b c : List UInt8) (ha : k < a.length) (hb : b.length = a.length) (hc : c.length = a.length),
    (Cr.x3 (a.take k) (b.take k) (c.take k) ++ a.drop k).set k (a[k] ^^^ b[k] ^^^ c[k]) = Cr.x3 (a.take (k + 1)) (b.take (k + 1)) (c.take (k + 1)) ++ a.drop (k + 1)
  | 0, x :: a, y :: b, z :: c, _, _, _ => rfl
  | k + 1, x :: a, y :: b, z :: c, ha, hb, hc => by
    have := x3_snoc k a b c (by simpa using ha) (by simpa using hb) (by simpa using hc)
    show (x ^^^ y ^^^ z) :: _ = (x ^^^ y ^^^ z) :: _
    congr 1
theorem x3_at (k : Nat) (a b c : List UInt8) (ha : k < a.length) (hb : b.length = a.length) (hc : c.length = a.length) (h : k < (Cr.x3 (a.take k) (b.take k) (c.take k) ++ a.drop k).length) :
    (Cr.x3 (a.take k) (b.take k) (c.take k) ++ a.drop k)[k] = a[k] := by
  have hl : (Cr.x3 (a.take k) (b.take k) (c.take k)).length = k := by
    rw [Cr.x3_len _ _ _ (by simp [hb]) (by simp [hc])]
    simp
    omega
  rw [List.getElem_append_right (by omega)]
  simp [hl]
theorem x3_whole (a b c : List UInt8) (n : Nat) (hn : a.length = n) (hb : b.length = n) (hc : c.length = n) : Cr.x3 (a.take n) (b.take n) (c.take n) ++ a.drop n = Cr.x3 a b c := by
  rw [List.take_of_length_le (by omega), List.take_of_length_le (by omega), List.take_of_length_le (by omega), List.drop_eq_nil_of_le (by omega), List.append_nil]
theorem x3_take_len (k : Nat) (a b c : List UInt8) (hk : k ≤ a.length) (hb : b.length = a.length) (hc : c.length = a.length) : (Cr.x3 (a.take k) (b.take k) (c.take k) ++ a.drop k).length = a.length := by
  rw [List.length_append, Cr.x3_len _ _ _ (by simp [hb]) (by simp [hc])]
  simp
  omega

/-- What stands at the loop's head. -/
def SumRel (w : World) (A8 : Option Addr) (a b c : List UInt8) (i : Value) (wr : World) : Prop :=
  ∃ k : Nat, k ≤ a.length ∧ i = .int .i64 (k : Int) ∧ RowZ w.heap.size wr A8 (Cr.x3 (a.take k) (b.take k) (c.take k) ++ a.drop k) ∧ Below w.heap.size w wr

set_option maxHeartbeats 2000000 in
theorem crcSums_in (A A1 A2 : Option Addr) (c0 c1 c2 : Nat) (a b c : List UInt8) (w : World) (hH : Hs w) (ha : BCells w w.heap.size A a) (hb : BCells w w.heap.size A1 b) (hc : BCells w w.heap.size A2 c) (n : Nat) (hn : a.length = n) (hm : b.length = n) (hq : c.length = n) (hla : n ≤ 300) :
    Calls Tryd.prog 8 #[.slice A n c0, .slice A1 n c1, .slice A2 n c2] w (AwakePost w) := by
  have hp := hH.pos
  have HN := Lib.hid hn
  have HM := Lib.hid hm
  have HQ := Lib.hid hq
  clear hn hm hq
  have d1 : decide (300 < (n : Int)) = false := by simpa using (by omega : (n : Int) ≤ 300)
  obtain ⟨s, hs⟩ : ∃ s, Cr.sum (Cr.x3 a b c) = s := ⟨_, rfl⟩
  obtain ⟨s1, hs1⟩ : ∃ s, Cr.sum a = s := ⟨_, rfl⟩
  obtain ⟨s2, hs2⟩ : ∃ s, Cr.sum b = s := ⟨_, rfl⟩
  obtain ⟨s3, hs3⟩ : ∃ s, Cr.sum c = s := ⟨_, rfl⟩
  obtain ⟨s4, hs4⟩ : ∃ x, s1 ^^^ s2 = x := ⟨_, rfl⟩
  have hl1 : s1 < 4294967296 := by rw [← hs1]; exact Cr.sum_lt a
  have hl2 : s2 < 4294967296 := by rw [← hs2]; exact Cr.sum_lt b
  have hl3 : s3 < 4294967296 := by rw [← hs3]; exact Cr.sum_lt c
  have hl4 : s4 < 4294967296 := by rw [← hs4]; exact Nat.xor_lt_two_pow (n := 32) hl1 hl2
  have hx1 : bits .xor .u32 (s1 : Int) (s2 : Int) = (s4 : Int) := by rw [← hs4]; exact u32_xor_nat s1 s2 hl1 hl2
  have hx2 : bits .xor .u32 (s4 : Int) (s3 : Int) = (s : Int) := by
    rw [← hs, Cr.sum_x3 a b c (by have := HN.out; have := HM.out; omega) (by have := HN.out; have := HQ.out; omega), hs1, hs2, hs3, hs4]
    exact u32_xor_nat s4 s3 hl4 hl3
  have HS := Lib.hid hs
  have HS1 := Lib.hid hs1
  have HS2 := Lib.hid hs2
  have HS3 := Lib.hid hs3
  clear hs hs1 hs2 hs3 hs4
  go_enter Tryd.func8, Tryd.ntmps8
  go_wp2_with fail
  refine (awake_any w hH).mono ?_
  rintro e w1 ⟨rfl, hb1⟩
  have hown0 := row_none w1 w.heap.size hb1.size w1.heap.size rfl
  have hb2 : Below w.heap.size w (w1.alloc (.cells #[] 5)) := hb1.alloc hb1.size _
  have hA2 := ha.keep hb2
  have tok1 : True := trivial
  go_wp2_with (first
    | (at_builtin; have _t := tok1; refine wpList_append_bytes ?hw1 (.tmp 29) (.tmp 30) rfl w.heap.size (.slice (some ⟨w1.heap.size, 0, none⟩) 0 0) A c0 n [] a rfl HN.out rfl hown0 hA2 (by have := HN.out; simp; omega) hb2.size ?_; rotate_right; intro v5 w5 hown5 hgrow5; have hb5 : Below w.heap.size w w5 := hb2.grown hgrow5 hb2.size (fun k hk => (World.ownsRow.lt hown0 k hk).1); clear tok1 hgrow5))
  obtain ⟨A8, c8, hv8, _, _⟩ := hown5.form
  rw [List.nil_append, HN.out] at hv8
  subst hv8
  have hz5 := hown5.rowz
  rw [List.nil_append] at hz5
  clear hown5 hb1 hb2 hA2 hown0
  go_loopw [9] (fun i wr => SumRel w A8 a b c i wr) (fun i _ => n - (intOf i).toNat)
  case atStart => exact ⟨0, Nat.zero_le _, rfl, hz5, hb5⟩
  case round =>
    obtain ⟨k, hk, rfl, hz, hbr⟩ := hrel
    have hnl := HN.out
    have hml := HM.out
    have hql := HQ.out
    have hkn : k ≤ n := by omega
    clear hb5 hz5
    by_cases hlt : k < n
    · have hzl := x3_take_len k a b c (by omega) (by omega) (by omega)
      have hzg := x3_at k a b c (by omega) (by omega) (by omega) (by omega)
      have hzs := x3_snoc k a b c (by omega) (by omega) (by omega)
      obtain ⟨z, hzz⟩ : ∃ z, Cr.x3 (a.take k) (b.take k) (c.take k) ++ a.drop k = z := ⟨_, rfl⟩
      obtain ⟨g, cur, rfl, hgb, hg, hgs, hgt⟩ := hz (by omega)
      simp only [hzz] at hzl hzg hzs hgs hgt
      obtain ⟨b1, o1, rfl, hc1⟩ := (hb.keep hbr) (by omega)
      obtain ⟨b2, o2, rfl, hc2⟩ := (hc.keep hbr) (by omega)
      have e0 := row_cell hg hgt k (by omega)
      rw [hzg] at e0
      have e1 := hc1 k (by omega)
      have e2 := hc2 k (by omega)
      have ef := row_frozen hg k
      obtain ⟨x0, hx0⟩ : ∃ x, x = a[k] := ⟨_, rfl⟩
      obtain ⟨x1, hx1'⟩ : ∃ x, x = b[k] := ⟨_, rfl⟩
      obtain ⟨x2, hx2'⟩ : ∃ x, x = c[k] := ⟨_, rfl⟩
      rw [← hx0] at e0
      rw [← hx1'] at e1
      rw [← hx2'] at e2
      rw [← hx0, ← hx1', ← hx2'] at hzs
      obtain ⟨y, hy⟩ : ∃ y, y = x0 ^^^ x1 := ⟨_, rfl⟩
      obtain ⟨y2, hy2⟩ : ∃ y2, y2 = y ^^^ x2 := ⟨_, rfl⟩
      have hxa : bits .xor .u8 (x0.toNat : Int) (x1.toNat : Int) = (y.toNat : Int) := by
        rw [hy, UInt8.toNat_xor]; exact u8_xor_nat _ _ (Cr.u8_lt _) (Cr.u8_lt _)
      have hxb : bits .xor .u8 (y.toNat : Int) (x2.toNat : Int) = (y2.toNat : Int) := by
        rw [hy2, UInt8.toNat_xor]; exact u8_xor_nat _ _ (Cr.u8_lt _) (Cr.u8_lt _)
      have hnew := row_set hgb hg hgs hgt k y2
      rw [hy2, hy, hzs] at hnew
      rw [← hy, ← hy2] at hnew
      have HNEW := Lib.hid hnew
      have HB := Lib.hid hbr
      have hk0 : (0 : Int) ≤ (k : Int) := by omega
      have hkI : (k : Int) < (n : Int) := by omega
      have hgl : w.heap.size ≤ g := hgb
      clear hnl hml hql hzl hzg hzs hzz hz hg hgs hgt hc1 hc2 hx0 hx1' hx2' hy hy2 hnew hbr hH ha hb hc
      go_wp2
      go_region
      go_wp2
      go_roundw
      case rel =>
        refine ⟨k + 1, by have := HN.out; omega, by go_num, HNEW.out, (HB.out.setCell (p := ⟨g, k, none⟩) hgl _).drew⟩
      case measure => simp [intOf]; omega
    · obtain rfl : k = n := by omega
      have hw := x3_whole a b c k hnl hml hql
      rw [hw] at hz
      have hzl : (Cr.x3 a b c).length = k := by rw [Cr.x3_len a b c (by omega) (by omega)]; exact hnl
      have HZL := Lib.hid hzl
      have hHr := hH.below hbr hp
      have ha' := ha.keep hbr
      have hb' := hb.keep hbr
      have hc' := hc.keep hbr
      clear hw hzl hnl hml hql
      go_wp2_with fail
      refine (of_ex (Cr.x3 a b c) k c8 s A8 wr hHr HZL.out (by omega) hz.bc HS.out).mono ?_
      rintro e w' ⟨rfl, rfl⟩
      go_wp2_with fail
      refine (of_ex a k c0 s1 A wr hHr HN.out (by omega) ha' HS1.out).mono ?_
      rintro e w' ⟨rfl, rfl⟩
      go_wp2_with fail
      refine (of_ex b k c1 s2 A1 wr hHr HM.out (by omega) hb' HS2.out).mono ?_
      rintro e w' ⟨rfl, rfl⟩
      go_wp2_with fail
      refine (of_ex c k c2 s3 A2 wr hHr HQ.out (by omega) hc' HS3.out).mono ?_
      rintro e w' ⟨rfl, rfl⟩
      go_wp2
      go_ret
      exact ⟨rfl, hbr⟩

set_option maxHeartbeats 1000000 in
theorem crcSums_out (A A1 A2 : Option Addr) (c0 c1 c2 n m q : Nat) (w : World) (hH : Hs w) (h : 300 < n ∨ m ≠ n ∨ q ≠ n) :
    Calls Tryd.prog 8 #[.slice A n c0, .slice A1 m c1, .slice A2 q c2] w (AwakePost w) := by
  have ho : (decide (300 < (n : Int)) || ((m : Int) != (n : Int)) || ((q : Int) != (n : Int))) = true := by
    simp only [Bool.or_eq_true, decide_eq_true_eq, bne_iff_ne, ne_eq]
    omega
  obtain ⟨p1, d1⟩ : ∃ p, decide (300 < (n : Int)) = p := ⟨_, rfl⟩
  obtain ⟨p2, d2⟩ : ∃ p, ((m : Int) != (n : Int)) = p := ⟨_, rfl⟩
  obtain ⟨p3, d3⟩ : ∃ p, ((q : Int) != (n : Int)) = p := ⟨_, rfl⟩
  rw [d1, d2, d3] at ho
  clear h
  go_enter Tryd.func8, Tryd.ntmps8
  go_wp2_with fail
  refine (awake_any w hH).mono ?_
  rintro e w1 ⟨rfl, hb1⟩
  cases p1 <;> cases p2 <;> cases p3 <;> first
    | (exfalso; revert ho; decide)
    | (go_wp2; go_ret; exact ⟨rfl, hb1⟩)

theorem crcSums_any (A : Option Addr) (c0 : Nat) (a : List UInt8) (A1 : Option Addr) (c1 : Nat) (b : List UInt8) (A2 : Option Addr) (c2 : Nat) (c : List UInt8) (w : World) (hH : Hs w) (ha : BCells w w.heap.size A a) (hb : BCells w w.heap.size A1 b) (hc : BCells w w.heap.size A2 c) :
    Calls Tryd.prog 8 #[.slice A a.length c0, .slice A1 b.length c1, .slice A2 c.length c2] w (AwakePost w) := by
  by_cases h : 300 < a.length ∨ b.length ≠ a.length ∨ c.length ≠ a.length
  · exact crcSums_out A A1 A2 c0 c1 c2 _ _ _ w hH h
  · have h1 : b.length = a.length := by omega
    have h2 : c.length = a.length := by omega
    have := crcSums_in A A1 A2 c0 c1 c2 a b c w hH ha hb hc a.length rfl h1 h2 (by omega)
    rwa [h1, h2]
end Go.Proofs.YtlfdgmiiijjbhaaDoor
