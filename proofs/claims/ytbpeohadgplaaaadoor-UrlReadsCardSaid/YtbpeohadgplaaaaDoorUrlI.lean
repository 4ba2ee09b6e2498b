/- The document's own small and find of URLs at the places where its Parse asks them; schemes. -/
import Derived.Test.YtbpeohadgplaaaaDoorVl
namespace Go.Proofs.YtbpeohadgplaaaaDoor
set_option maxRecDepth 8000
open Go.RowKit

theorem refSmall_S (x : List UInt8) (w : World) (hs : x.length ≤ 1073741824) :
    Calls Tryd.prog 46 #[.string (S x)] w (Told w (.returned (.string (S (Url.small x))))) := refSmall_any (S x) w hs

theorem refSmall7_yes (x : List UInt8) (w : World) (h : Url.small x = Url.http ++ Url.sep) :
    Calls Tryd.prog 46 #[.string (S x)] w fun e w' => e = .returned (.string ⟨#[104, 116, 116, 112, 58, 47, 47]⟩) ∧ Below w.heap.size w w' := by
  have hl : x.length = 7 := by rw [← small_len, h]; rfl
  exact (refSmall_S x w (by omega)).mono fun e w' ⟨he, hb⟩ => ⟨by rw [he, h]; rfl, hb⟩
theorem refSmall8_yes (x : List UInt8) (w : World) (h : Url.small x = Url.https ++ Url.sep) :
    Calls Tryd.prog 46 #[.string (S x)] w fun e w' => e = .returned (.string ⟨#[104, 116, 116, 112, 115, 58, 47, 47]⟩) ∧ Below w.heap.size w w' := by
  have hl : x.length = 8 := by rw [← small_len, h]; rfl
  exact (refSmall_S x w (by omega)).mono fun e w' ⟨he, hb⟩ => ⟨by rw [he, h]; rfl, hb⟩


theorem noneOf4 : noneOf [47, 63, 35, 58] = Url.noDelim := by
  funext c
  have := Url.byte_all (P := fun c => noneOf [47, 63, 35, 58] c == Url.noDelim c) (by decide +kernel) c
  simpa using this
theorem noneOf3 : noneOf [47, 63, 35] = Url.noEnd := by
  funext c
  have := Url.byte_all (P := fun c => noneOf [47, 63, 35] c == Url.noEnd c) (by decide +kernel) c
  simpa using this
theorem noneOf1 : noneOf [63] = Url.notQ := by
  funext c
  have := Url.byte_all (P := fun c => noneOf [63] c == Url.notQ c) (by decide +kernel) c
  simpa using this
theorem find4_to (s : ByteArray) (k : Nat) (w : World) (hk : k ≤ s.size) (hs : s.size ≤ 1073741824) :
    Calls Tryd.prog 47 #[.string s, .int .i64 k, .string ⟨#[47, 63, 35, 58]⟩] w fun e w' => e = .returned (.int .i64 ((k : Int) + (((s.data.toList.drop k).takeWhile Url.noDelim).length : Nat))) ∧ Below w.heap.size w w' := by
  refine (refFind_any s ⟨#[47, 63, 35, 58]⟩ k w hk hs (by decide)).mono fun e w' ⟨h, hb⟩ => ⟨h.trans (ret_i64 ?_), hb⟩
  unfold findP
  rw [← noneOf4]
  exact Int.natCast_add _ _
theorem find3_to (s : ByteArray) (k : Nat) (w : World) (hk : k ≤ s.size) (hs : s.size ≤ 1073741824) :
    Calls Tryd.prog 47 #[.string s, .int .i64 k, .string ⟨#[47, 63, 35]⟩] w fun e w' => e = .returned (.int .i64 ((k : Int) + (((s.data.toList.drop k).takeWhile Url.noEnd).length : Nat))) ∧ Below w.heap.size w w' := by
  refine (refFind_any s ⟨#[47, 63, 35]⟩ k w hk hs (by decide)).mono fun e w' ⟨h, hb⟩ => ⟨h.trans (ret_i64 ?_), hb⟩
  unfold findP
  rw [← noneOf3]
  exact Int.natCast_add _ _
theorem find1_to (s : ByteArray) (k : Nat) (w : World) (hk : k ≤ s.size) (hs : s.size ≤ 1073741824) :
    Calls Tryd.prog 47 #[.string s, .int .i64 k, .string ⟨#[63]⟩] w fun e w' => e = .returned (.int .i64 ((k : Int) + (((s.data.toList.drop k).takeWhile Url.notQ).length : Nat))) ∧ Below w.heap.size w w' := by
  refine (refFind_any s ⟨#[63]⟩ k w hk hs (by decide)).mono fun e w' ⟨h, hb⟩ => ⟨h.trans (ret_i64 ?_), hb⟩
  unfold findP
  rw [← noneOf1]
  exact Int.natCast_add _ _
/-- What is read from k on, while p holds, as a piece of the text. -/
theorem piece_while (s : ByteArray) (l : List UInt8) (hl : l = s.data.toList) (p : UInt8 → Bool) (k : Nat) : s.extract k (k + ((l.drop k).takeWhile p).length) = S ((l.drop k).takeWhile p) := by
  rw [extract_piece, ← hl]
  congr 1
  rw [Nat.add_sub_cancel_left]
  generalize l.drop k = m
  induction m with
  | nil => rfl
  | cons c m ih =>
    by_cases hc : p c = true
    · rw [List.takeWhile_cons_of_pos hc]; simpa using ih
    · rw [List.takeWhile_cons_of_neg hc]; rfl

theorem drop_while (p : UInt8 → Bool) : ∀ m : List UInt8, m.drop (m.takeWhile p).length = m.dropWhile p
  | [] => rfl
  | c :: m => by
    by_cases hc : p c = true
    · rw [List.takeWhile_cons_of_pos hc, List.dropWhile_cons_of_pos hc]; exact drop_while p m
    · rw [List.takeWhile_cons_of_neg hc, List.dropWhile_cons_of_neg hc]; rfl
theorem blk_set {w : World} {g i : Nat} {u u' : Url.U} {v : Value} (h : BlkU w g u) (hu : (uCells u).setIfInBounds i v = uCells u') : BlkU (w.setCell ⟨g, i, none⟩ v) g u' :=
  (Lib.heap_setCell_same h v).trans (by rw [hu])

def is7 (l : List UInt8) : Bool := decide (Url.small (l.take 7) = Url.http ++ Url.sep)
def is8 (l : List UInt8) : Bool := decide (Url.small (l.take 8) = Url.https ++ Url.sep)
theorem small_take (l : List UInt8) (n : Nat) : Url.small (l.take n) = (Url.small l).take n := by simp [Url.small, List.map_take]
theorem is_len {l : List UInt8} {n : Nat} {x : List UInt8} (h : Url.small (l.take n) = x) (hx : x.length = n) : n ≤ l.length := by
  have := congrArg List.length h
  rw [small_len, List.length_take, hx] at this
  omega
theorem is_both {l : List UInt8} (h7 : is7 l = true) : is8 l = false := by
  unfold is7 at h7
  unfold is8
  rw [decide_eq_false_iff_not]
  intro h8
  have h7' := of_decide_eq_true h7
  rw [small_take] at h7' h8
  have : ((Url.small l).take 8).take 7 = (Url.small l).take 7 := by rw [List.take_take]; rfl
  rw [h8, h7'] at this
  exact absurd this (by decide)
/-- The scheme: how far, and which. -/
def schAt (l : List UInt8) : Nat := if is7 l = true then 7 else if is8 l = true then 8 else 0
def schS (l : List UInt8) : List UInt8 := if is7 l = true then Url.http else if is8 l = true then Url.https else []
theorem sch_none {l : List UInt8} (h7 : is7 l = false) (h8 : is8 l = false) : Url.schemeOf l = none := by
  unfold Url.schemeOf
  rw [if_neg (of_decide_eq_false h7), if_neg (of_decide_eq_false h8)]
theorem sch_7 {l : List UInt8} (h7 : is7 l = true) : Url.schemeOf l = some (Url.http, l.drop 7) ∧ 7 ≤ l.length := by
  have := of_decide_eq_true h7
  unfold Url.schemeOf
  rw [if_pos this]
  exact ⟨rfl, is_len this rfl⟩
theorem sch_8 {l : List UInt8} (h7 : is7 l = false) (h8 : is8 l = true) : Url.schemeOf l = some (Url.https, l.drop 8) ∧ 8 ≤ l.length := by
  have := of_decide_eq_true h8
  unfold Url.schemeOf
  rw [if_neg (of_decide_eq_false h7), if_pos this]
  exact ⟨rfl, is_len this rfl⟩


theorem find1_at (s : ByteArray) (k : Nat) (a : Int) (w : World) (ha : a = (k : Int)) (hk : k ≤ s.size) (hs : s.size ≤ 1073741824) :
    Calls Tryd.prog 47 #[.string s, .int .i64 a, .string ⟨#[63]⟩] w fun e w' => e = .returned (.int .i64 ((k : Int) + (((s.data.toList.drop k).takeWhile Url.notQ).length : Nat))) ∧ Below w.heap.size w w' := by
  subst ha
  exact find1_to s k w hk hs
theorem find3_at (s : ByteArray) (k : Nat) (a : Int) (w : World) (ha : a = (k : Int)) (hk : k ≤ s.size) (hs : s.size ≤ 1073741824) :
    Calls Tryd.prog 47 #[.string s, .int .i64 a, .string ⟨#[47, 63, 35]⟩] w fun e w' => e = .returned (.int .i64 ((k : Int) + (((s.data.toList.drop k).takeWhile Url.noEnd).length : Nat))) ∧ Below w.heap.size w w' := by
  subst ha
  exact find3_to s k w hk hs
theorem find4_at (s : ByteArray) (k : Nat) (a : Int) (w : World) (ha : a = (k : Int)) (hk : k ≤ s.size) (hs : s.size ≤ 1073741824) :
    Calls Tryd.prog 47 #[.string s, .int .i64 a, .string ⟨#[47, 63, 35, 58]⟩] w fun e w' => e = .returned (.int .i64 ((k : Int) + (((s.data.toList.drop k).takeWhile Url.noDelim).length : Nat))) ∧ Below w.heap.size w w' := by
  subst ha
  exact find4_to s k w hk hs
theorem refPart_S (x : List UInt8) (w : World) (hs : x.length ≤ 1073741824) :
    Calls Tryd.prog 48 #[.string (S x)] w (Told w (partRes (Url.part x))) := refPart_any (S x) w hs
theorem refDots_S (x : List UInt8) (w : World) (hs : x.length ≤ 1048576) :
    Calls Tryd.prog 49 #[.string (S x)] w (Told w (.returned (.string (S (Url.dots x))))) := refDots_any (S x) w hs
theorem host_get {ho : List UInt8} (h : hostOk ho = true) : ho ≠ [] ∧ ho.length ≤ 64 ∧ ∀ j (hj : j < (S (Url.small ho)).size), Url.hostB ((S (Url.small ho))[j]) = true := by
  unfold hostOk at h
  rw [Bool.and_eq_true, Bool.and_eq_true, decide_eq_true_eq, decide_eq_true_eq, ← host_all] at h
  refine ⟨h.1.1, h.1.2, fun j hj => ?_⟩
  exact List.all_eq_true.1 h.2 _ (List.mem_of_getElem? (Lib.data_getElem? (S (Url.small ho)) j hj))
theorem refPart_some (x q : List UInt8) (w : World) (hs : x.length ≤ 1073741824) (h : Url.part x = some q) :
    Calls Tryd.prog 48 #[.string (S x)] w fun e w' => e = .returned (.tuple #[.string (S q), .bool true]) ∧ Below w.heap.size w w' :=
  (refPart_S x w hs).mono fun e w' ⟨h1, h2⟩ => ⟨by rw [h1, h]; rfl, h2⟩
theorem refPart_none (x : List UInt8) (w : World) (hs : x.length ≤ 1073741824) (h : Url.part x = none) :
    Calls Tryd.prog 48 #[.string (S x)] w fun e w' => e = .returned (.tuple #[.string ⟨#[]⟩, .bool false]) ∧ Below w.heap.size w w' :=
  (refPart_S x w hs).mono fun e w' ⟨h1, h2⟩ => ⟨by rw [h1, h]; rfl, h2⟩
theorem At0.set {w0 w : World} (h : At0 w0 w) {g : Nat} (hg : w0.heap.size < g) (hl : 0 < w0.heap.size ∧ 1 < w0.heap.size ∧ 4 < w0.heap.size) (i : Nat) (v : Value) : At0 w0 (w.setCell ⟨g, i, none⟩ v) :=
  ⟨h.env.below ((Below.refl g w).setCell (p := ⟨g, i, none⟩) (Nat.le_refl _) v) ⟨Nat.lt_trans hl.1 hg, Nat.lt_trans hl.2.1 hg, Nat.lt_trans hl.2.2 hg⟩, (Below.heap_setCell w ⟨g, i, none⟩ v w0.heap.size (Nat.ne_of_lt hg)).trans h.blk, h.below.setCell (p := ⟨g, i, none⟩) (Nat.le_of_lt hg) v⟩
theorem u8_not {a : UInt8} {n : Int} (b : UInt8) (hb : (b.toNat : Int) = n) (h : a ≠ b) : ((a.toNat : Int) == n) = false :=
  beq_eq_false_iff_ne.2 fun e => h (Pct.u8_eq (by omega))
theorem all_of {s : ByteArray} {p : UInt8 → Bool} (h : ∀ j (hj : j < s.size), p s[j] = true) : s.data.toList.all p = true :=
  List.all_eq_true.2 fun x hx => by
    obtain ⟨j, hj, rfl⟩ := List.getElem_of_mem hx
    exact h j (by simpa using hj)
theorem val_more (d : List UInt8) (k : Nat) : Url.val (d.take k) ≤ Url.val d := by
  have h := val_go (d.drop k) (Url.val (d.take k))
  have e : Url.val d = (d.drop k).foldl (fun n c => 10 * n + (c.toNat - 48)) (Url.val (d.take k)) := by
    unfold Url.val
    rw [← List.foldl_append, List.take_append_drop]
  rw [e]
  refine Nat.le_trans ?_ h
  exact Nat.le_mul_of_pos_right _ (Nat.pow_pos (by omega))
theorem port_big {d : List UInt8} {k : Nat} (h : 65535 < Url.val (d.take k)) : Url.portOf d = none := by
  unfold Url.portOf
  rw [if_neg]
  rintro ⟨_, _, h3⟩
  have := val_more d k
  omega
theorem port_zero {d : List UInt8} (ha : d.all Url.digB = true) (h : Url.val d = 0) : Url.portOf d = none := by
  unfold Url.portOf
  rw [if_neg]
  rintro ⟨_, h2, _⟩
  cases d with
  | nil => exact h2 rfl
  | cons c r =>
    rw [List.all_cons, Bool.and_eq_true] at ha
    have hd := of_decide_eq_true (p := 48 ≤ c.toNat ∧ c.toNat ≤ 57) ha.1
    have hc : c.toNat ≠ 48 := fun e => h2 (Pct.u8_eq e)
    have hv : Url.val (c :: r) ≥ (c.toNat - 48) * 10 ^ r.length := by
      unfold Url.val
      rw [List.foldl_cons]
      simpa using val_go r (c.toNat - 48)
    have h6 : 1 ≤ (c.toNat - 48) * 10 ^ r.length := Nat.mul_pos (by omega) (Nat.pow_pos (by omega))
    omega
end Go.Proofs.YtbpeohadgplaaaaDoor
