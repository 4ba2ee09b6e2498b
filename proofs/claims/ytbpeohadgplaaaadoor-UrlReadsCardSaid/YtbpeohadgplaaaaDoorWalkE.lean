/- What the calls pair and Form of package pct do, for any text of at most 2^30 bytes, where the table of digits reads as its text lays it. -/
import Derived.Test.YtbpeohadgplaaaaDoorWalkD
import Derived.Test.YtbpeohadgplaaaaDoorForms
namespace Go.Proofs.YtbpeohadgplaaaaDoor
set_option maxRecDepth 8000
open Go.RowKit

theorem below_drewN {B : Nat} {a w : World} (h : Below B a w) (n : Nat) : Below B a (w.drewN n) := h.trans ⟨rfl, rfl, rfl, Nat.le_refl _, fun _ _ => rfl⟩

theorem S_toList (l : List UInt8) : (S l).data.toList = l := rfl
theorem S_eq (s : ByteArray) : S s.data.toList = s := rfl

/-- strings.Cut at one byte. -/
theorem strCut_any (l : List UInt8) (c : UInt8) (w : World) (hl : l.length ≤ 1099511627776) :
    Calls Tryd.prog 42 #[.string (S l), .string ⟨#[c]⟩] w (Cuts w (S (Pct.cutAt c l).1) (S (Pct.cutAt c l).2.1) (Pct.cutAt c l).2.2) := by
  have hsz : (S l).size = l.length := rfl
  rcases Pct.indexByte_cases l c with h | ⟨i, h⟩
  · rw [Pct.cutAt_miss l c h]
    exact strCut_miss (S l) c w h
  · obtain ⟨h1, h2⟩ := Pct.cutAt_found l c i h
    rw [h2]
    have e1 : S (l.take i) = (S l).extract 0 i := by
      have : ((S l).extract 0 i).data.toList = l.take i := by
        rw [ByteArray.data_extract, Array.toList_extract, List.extract_eq_take_drop]
        rfl
      rw [← this]
      rfl
    have e2 : S (l.drop (i + 1)) = (S l).extract (i + 1) (S l).size := by
      have := extract_toList (S l) (i + 1)
      rw [S_toList] at this
      rw [← this]
      rfl
    rw [e1, e2]
    exact strCut_hit (S l) c i w h (by rw [hsz]; omega) (by rw [hsz]; omega)

def pairRes (o : Option Pct.PairL) : Ending :=
  match o with
  | some q => .returned (.tuple #[.agg #[.string (S q.1), .string (S q.2)], .int .i64 0])
  | none => .returned (.tuple #[.agg #[.string ⟨#[]⟩, .string ⟨#[]⟩], .int .i64 11])

theorem decode_some (l x : List UInt8) (p : Bool) (w : World) (hd : Digs w) (hl : l.length ≤ 1073741824) (h : Pct.dec p l = some x) :
    Calls Tryd.prog 110 #[.string (S l), .bool p] w fun e w' => e = .returned (.tuple #[.string (S x), .int .i64 0]) ∧ Below w.heap.size w w' :=
  (decode_any (S l) p w hd hl).mono fun e w' ⟨he, hb⟩ => ⟨by rw [he, S_toList, h]; rfl, hb⟩
theorem decode_none (l : List UInt8) (p : Bool) (w : World) (hd : Digs w) (hl : l.length ≤ 1073741824) (h : Pct.dec p l = none) :
    Calls Tryd.prog 110 #[.string (S l), .bool p] w fun e w' => e = .returned (.tuple #[.string ⟨#[]⟩, .int .i64 11]) ∧ Below w.heap.size w w' :=
  (decode_any (S l) p w hd hl).mono fun e w' ⟨he, hb⟩ => ⟨by rw [he, S_toList, h]; rfl, hb⟩

theorem strCut_to (l : List UInt8) (c : UInt8) (a b : List UInt8) (f : Bool) (w : World) (hl : l.length ≤ 1099511627776) (h : Pct.cutAt c l = (a, b, f)) :
    Calls Tryd.prog 42 #[.string (S l), .string ⟨#[c]⟩] w fun e w' => e = .returned (.tuple #[.string (S a), .string (S b), .bool f]) ∧ Below w.heap.size w w' :=
  (strCut_any l c w hl).mono fun e w' ⟨he, n, hw⟩ => ⟨by rw [he, h], by rw [hw]; exact below_drewN (Below.refl _ _) n⟩

/-- A block of a pair of texts. -/
def Blk2 (w : World) (g : Nat) (x y : ByteArray) : Prop := w.heap[g]? = some (.cells #[.string x, .string y] 51 (0, 0))
section
variable {w w' : World} {g : Nat} {x y : ByteArray}
theorem Blk2.new (w : World) (x y : ByteArray) : Blk2 (w.alloc (.cells #[.string x, .string y] 51)) w.heap.size x y := heap_alloc_new w _
theorem Blk2.below {B : Nat} (h : Blk2 w g x y) (hb : Below B w w') (hg : g < B) : Blk2 w' g x y := (hb.block g hg).trans h
theorem Blk2.cell0 (h : Blk2 w g x y) : w.cell? ⟨g, 0, none⟩ = some (.string x) := cell_of_row w g 0 _ _ _ h
theorem Blk2.cell1 (h : Blk2 w g x y) : w.cell? ⟨g, 1, none⟩ = some (.string y) := cell_of_row w g 1 _ _ _ h
theorem Blk2.frozen (h : Blk2 w g x y) (i : Nat) : w.frozen? ⟨g, i, none⟩ = false := by
  unfold Blk2 at h
  simp [World.frozen?, h]
end

theorem cutAt_len (c : UInt8) : ∀ l : List UInt8, (Pct.cutAt c l).1.length + (Pct.cutAt c l).2.1.length ≤ l.length
  | [] => by simp [Pct.cutAt]
  | x :: r => by
    by_cases hx : x = c
    · rw [hx, Pct.cutAt_hit]; simp
    · rw [Pct.cutAt_other c x r hx]
      have := cutAt_len c r
      simp
      omega

theorem pairOf_1 {l a b : List UInt8} {f : Bool} (h : Pct.cutAt 61 l = (a, b, f)) (ha : Pct.dec true a = none) : Pct.pairOf l = none := by
  unfold Pct.pairOf; rw [h]; simp only [ha]
theorem pairOf_2 {l a b x : List UInt8} {f : Bool} (h : Pct.cutAt 61 l = (a, b, f)) (ha : Pct.dec true a = some x) (hb : Pct.dec true b = none) : Pct.pairOf l = none := by
  unfold Pct.pairOf; rw [h]; simp only [ha, hb]
theorem pairOf_3 {l a b x y : List UInt8} {f : Bool} (h : Pct.cutAt 61 l = (a, b, f)) (ha : Pct.dec true a = some x) (hb : Pct.dec true b = some y) : Pct.pairOf l = some (x, y) := by
  unfold Pct.pairOf; rw [h]; simp only [ha, hb]
theorem pairRes_none {o : Option Pct.PairL} (h : o = none) : Ending.returned (.tuple #[.agg #[.string ⟨#[]⟩, .string ⟨#[]⟩], .int .i64 11]) = pairRes o := by rw [h]; rfl
theorem pairRes_some {o : Option Pct.PairL} {x y : List UInt8} (h : o = some (x, y)) : Ending.returned (.tuple #[.agg #[.string (S x), .string (S y)], .int .i64 0]) = pairRes o := by rw [h]; rfl

set_option maxHeartbeats 400000 in
theorem pair_any (l : List UInt8) (w : World) (hd : Digs w) (hl : l.length ≤ 1073741824) :
    Calls Tryd.prog 88 #[.string (S l)] w (Told w (pairRes (Pct.pairOf l))) := by
  obtain ⟨a, b, f, hcut⟩ : ∃ a b f, Pct.cutAt 61 l = (a, b, f) := ⟨_, _, _, rfl⟩
  have hlen := cutAt_len 61 l
  rw [hcut] at hlen
  have hla : a.length ≤ 1073741824 := by simp only at hlen; omega
  have hlb : b.length ≤ 1073741824 := by simp only at hlen; omega
  clear hlen
  have HC := Lib.hid hcut
  clear hcut
  have h0 := hd.lt
  cases ha : Pct.dec true a with
  | none =>
    have HA := Lib.hid ha
    clear ha
    go_enter Tryd.func88, Tryd.ntmps88
    go_wp2_with fail
    refine (strCut_to l 61 a b f _ (by omega) HC.out).mono ?_
    rintro e w1 ⟨rfl, hb1⟩
    have hb1' : Below w.heap.size w w1 := ((Below.refl _ _).alloc (Nat.le_refl _) _).trans (hb1.mono (by simp))
    have B1 : Blk2 w1 w.heap.size ⟨#[]⟩ ⟨#[]⟩ := (Blk2.new w ⟨#[]⟩ ⟨#[]⟩).below hb1 (by simp)
    have hz1 : w.heap.size + 1 ≤ w1.heap.size := by have := hb1.size; simpa using this
    clear hb1
    go_wp2_with fail
    refine (decode_none a true w1 (hd.below hb1' h0) hla HA.out).mono ?_
    rintro e w2 ⟨rfl, hb2⟩
    have hb2' : Below w.heap.size w w2 := hb1'.trans (hb2.mono hb1'.size)
    have B2 : Blk2 w2 w.heap.size ⟨#[]⟩ ⟨#[]⟩ := B1.below hb2 (by omega)
    have c0 := B2.cell0
    have c1 := B2.cell1
    have f0 := B2.frozen 0
    have f1 := B2.frozen 1
    clear hb2 hb1' B1
    go_wp2
    exact bodyPost_ret (v := .tuple #[.agg #[.string ⟨#[]⟩, .string ⟨#[]⟩], .int .i64 11]) (by simp [results, Tryd.results88, go_sem, c0, c1]) rfl ⟨pairRes_none (pairOf_1 HC.out HA.out), (hb2'.setCell (Nat.le_refl _) _).setCell (Nat.le_refl _) _⟩
  | some x =>
    have HA := Lib.hid ha
    clear ha
    cases hb : Pct.dec true b with
    | none =>
      have HB := Lib.hid hb
      clear hb
      go_enter Tryd.func88, Tryd.ntmps88
      go_wp2_with fail
      refine (strCut_to l 61 a b f _ (by omega) HC.out).mono ?_
      rintro e w1 ⟨rfl, hb1⟩
      have hb1' : Below w.heap.size w w1 := ((Below.refl _ _).alloc (Nat.le_refl _) _).trans (hb1.mono (by simp))
      have B1 : Blk2 w1 w.heap.size ⟨#[]⟩ ⟨#[]⟩ := (Blk2.new w ⟨#[]⟩ ⟨#[]⟩).below hb1 (by simp)
      have hz1 : w.heap.size + 1 ≤ w1.heap.size := by have := hb1.size; simpa using this
      clear hb1
      go_wp2_with fail
      refine (decode_some a x true w1 (hd.below hb1' h0) hla HA.out).mono ?_
      rintro e w2 ⟨rfl, hb2⟩
      have hb2' : Below w.heap.size w w2 := hb1'.trans (hb2.mono hb1'.size)
      have B2 : Blk2 w2 w.heap.size ⟨#[]⟩ ⟨#[]⟩ := B1.below hb2 (by omega)
      have hz2 : w.heap.size + 1 ≤ w2.heap.size := by have := hb2.size; omega
      clear hb2 B1
      go_wp2_with fail
      refine (decode_none b true w2 (hd.below hb2' h0) hlb HB.out).mono ?_
      rintro e w3 ⟨rfl, hb3⟩
      have hb3' : Below w.heap.size w w3 := hb2'.trans (hb3.mono hb2'.size)
      have B3 : Blk2 w3 w.heap.size ⟨#[]⟩ ⟨#[]⟩ := B2.below hb3 (by omega)
      have c0 := B3.cell0
      have c1 := B3.cell1
      have f0 := B3.frozen 0
      have f1 := B3.frozen 1
      clear hb3 hb2' hb1' B2
      go_wp2
      exact bodyPost_ret (v := .tuple #[.agg #[.string ⟨#[]⟩, .string ⟨#[]⟩], .int .i64 11]) (by simp [results, Tryd.results88, go_sem, c0, c1]) rfl ⟨pairRes_none (pairOf_2 HC.out HA.out HB.out), (hb3'.setCell (Nat.le_refl _) _).setCell (Nat.le_refl _) _⟩
    | some y =>
      have HB := Lib.hid hb
      clear hb
      go_enter Tryd.func88, Tryd.ntmps88
      go_wp2_with fail
      refine (strCut_to l 61 a b f _ (by omega) HC.out).mono ?_
      rintro e w1 ⟨rfl, hb1⟩
      have hb1' : Below w.heap.size w w1 := ((Below.refl _ _).alloc (Nat.le_refl _) _).trans (hb1.mono (by simp))
      have B1 : Blk2 w1 w.heap.size ⟨#[]⟩ ⟨#[]⟩ := (Blk2.new w ⟨#[]⟩ ⟨#[]⟩).below hb1 (by simp)
      have hz1 : w.heap.size + 1 ≤ w1.heap.size := by have := hb1.size; simpa using this
      clear hb1
      go_wp2_with fail
      refine (decode_some a x true w1 (hd.below hb1' h0) hla HA.out).mono ?_
      rintro e w2 ⟨rfl, hb2⟩
      have hb2' : Below w.heap.size w w2 := hb1'.trans (hb2.mono hb1'.size)
      have B2 : Blk2 w2 w.heap.size ⟨#[]⟩ ⟨#[]⟩ := B1.below hb2 (by omega)
      have hz2 : w.heap.size + 1 ≤ w2.heap.size := by have := hb2.size; omega
      clear hb2 B1
      go_wp2_with fail
      refine (decode_some b y true w2 (hd.below hb2' h0) hlb HB.out).mono ?_
      rintro e w3 ⟨rfl, hb3⟩
      have hb3' : Below w.heap.size w w3 := hb2'.trans (hb3.mono hb2'.size)
      have B3 : Blk2 w3 w.heap.size ⟨#[]⟩ ⟨#[]⟩ := B2.below hb3 (by omega)
      have c0 := B3.cell0
      have c1 := B3.cell1
      have f0 := B3.frozen 0
      have f1 := B3.frozen 1
      clear hb3 hb2' hb1' B2
      go_wp2
      exact bodyPost_ret (v := .tuple #[.agg #[.string (S x), .string (S y)], .int .i64 0]) (by simp [results, Tryd.results88, go_sem, c0, c1]) rfl ⟨pairRes_some (pairOf_3 HC.out HA.out HB.out), (hb3'.setCell (Nat.le_refl _) _).setCell (Nat.le_refl _) _⟩
end Go.Proofs.YtbpeohadgplaaaaDoor
