/- Plain functions on texts with and without marks (what is escaped, and what it was), and what follows of them; no program stands in it. No condition. -/
import Derived.Lib.Replace
import Derived.Lib.CountLaws
import Derived.Lib.IndexLaws
namespace Go.Proofs.YtpleaopefngafaaDoor
set_option maxRecDepth 8000
namespace Xm
abbrev Bytes := List UInt8

theorem byte_all {P : UInt8 → Bool} (h : ∀ n : Nat, n < 256 → P (UInt8.ofNat n) = true) (c : UInt8) : P c = true := by
  have := h c.toNat (UInt8.toNat_lt c)
  simpa using this
def wAmp : Bytes := [38, 97, 109, 112, 59]
def wLt : Bytes := [38, 108, 116, 59]
def wGt : Bytes := [38, 103, 116, 59]
def wQuot : Bytes := [38, 113, 117, 111, 116, 59]
def wApos : Bytes := [38, 35, 51, 57, 59]
/-- A byte as it is escaped; empty: it is not. -/
def mark (c : UInt8) : Bytes := if c = 38 then wAmp else if c = 60 then wLt else if c = 62 then wGt else if c = 34 then wQuot else if c = 39 then wApos else []
def esc1 (c : UInt8) : Bytes := if mark c = [] then [c] else mark c
def escape (l : Bytes) : Bytes := l.flatMap esc1

/-! ### Replacing -/
theorem rep_same (s old new : Bytes) (h : (old == new) = false) : Lib.replaceAll s old new = Lib.replaceK old new (Lib.count s old) s := by
  unfold Lib.replaceAll Lib.replace
  rw [if_neg (by rw [h]; decide)]
  congr 1
theorem rep_miss {s old new : Bytes} (h : (old == new) = false) (hi : Lib.index s old = -1) : Lib.replaceAll s old new = s := by
  rw [rep_same s old new h, Lib.count_miss hi]
  rfl
theorem rep_hit {s old new : Bytes} {i : Nat} (h : (old == new) = false) (ho : old ≠ []) (hi : Lib.index s old = i) : Lib.replaceAll s old new = s.take i ++ new ++ Lib.replaceAll (s.drop (i + old.length)) old new := by
  rw [rep_same s old new h, Lib.count_hit ho hi, Nat.add_comm, Lib.replaceK_hit old new _ s i hi, rep_same _ old new h]
theorem index_step (c : UInt8) (r sub : Bytes) (h : sub.isPrefixOf (c :: r) = false) : Lib.index (c :: r) sub = if Lib.index r sub == -1 then -1 else Lib.index r sub + 1 := by
  conv => lhs; unfold Lib.index
  rw [if_neg (by rw [h]; simp)]
/-- A byte at which the text does not stand stays. -/
theorem rep_skip {old new : Bytes} (h : (old == new) = false) (ho : old ≠ []) (c : UInt8) (r : Bytes) (hp : old.isPrefixOf (c :: r) = false) : Lib.replaceAll (c :: r) old new = c :: Lib.replaceAll r old new := by
  have hs := index_step c r old hp
  have hge := Lib.index_ge r old
  by_cases hm : Lib.index r old = -1
  · rw [hm] at hs
    rw [rep_miss h hs, rep_miss h hm]
  · obtain ⟨i, hi⟩ : ∃ i : Nat, Lib.index r old = i := ⟨(Lib.index r old).toNat, by omega⟩
    have hne : ¬ (Lib.index r old == -1) = true := by rw [beq_iff_eq]; exact hm
    rw [if_neg hne, hi] at hs
    have hs' : Lib.index (c :: r) old = ((i + 1 : Nat) : Int) := by rw [hs]; simp
    rw [rep_hit h ho hs', rep_hit h ho hi]
    rw [show i + 1 + old.length = (i + old.length) + 1 by omega]
    simp
theorem rep_here {old new : Bytes} (h : (old == new) = false) (ho : old ≠ []) (r : Bytes) : Lib.replaceAll (old ++ r) old new = new ++ Lib.replaceAll r old new := by
  have hi : Lib.index (old ++ r) old = ((0 : Nat) : Int) := Lib.index_first (Nat.zero_le _) (by simp [Lib.occAt]) (fun j hj => absurd hj (Nat.not_lt_zero _))
  rw [rep_hit h ho hi]
  simp
theorem rep_nil {old new : Bytes} (h : (old == new) = false) (ho : old ≠ []) : Lib.replaceAll [] old new = [] := by
  refine rep_miss h ?_
  cases old with
  | nil => exact absurd rfl ho
  | cons a b => simp [Lib.index]
/-- Bytes at none of which the text stands, whatever comes behind. -/
theorem rep_over {old new : Bytes} (h : (old == new) = false) (ho : old ≠ []) (r : Bytes) : ∀ a : Bytes, (∀ k, k < a.length → old.isPrefixOf ((a ++ r).drop k) = false) → Lib.replaceAll (a ++ r) old new = a ++ Lib.replaceAll r old new
  | [], _ => rfl
  | c :: a, hk => by
    have h0 := hk 0 (by simp)
    rw [List.cons_append, rep_skip h ho c (a ++ r) (by simpa using h0), rep_over h ho r a (fun k hk' => by
      have := hk (k + 1) (by simp; omega)
      simpa using this)]
    rfl

/-! ### Texts of pieces, a piece a byte -/
/-- Where w0 stands w1 does not come behind it, whatever comes behind the piece. -/
def safeB (w0 w1 : UInt8) : Bytes → Bool
  | [] => true
  | [x] => !(x == w0)
  | x :: y :: t => (!(x == w0) || !(y == w1)) && safeB w0 w1 (y :: t)
theorem safe_no {w0 w1 : UInt8} {w' : Bytes} (r : Bytes) : ∀ a : Bytes, safeB w0 w1 a = true → ∀ k, k < a.length → (w0 :: w1 :: w').isPrefixOf ((a ++ r).drop k) = false
  | [], _, k, hk => absurd hk (by simp)
  | [x], h, k, hk => by
    obtain rfl : k = 0 := by simpa using hk
    unfold safeB at h
    have hx : (w0 == x) = false := by
      rw [Bool.not_eq_true', beq_eq_false_iff_ne] at h
      exact beq_eq_false_iff_ne.2 (fun e => h e.symm)
    show ((w0 == x) && _) = false
    rw [hx]; rfl
  | x :: y :: t, h, k, hk => by
    unfold safeB at h
    rw [Bool.and_eq_true] at h
    cases k with
    | zero =>
      show ((w0 == x) && ((w1 == y) && _)) = false
      by_cases h1 : w0 = x
      · have h2 : (w1 == y) = false := beq_eq_false_iff_ne.2 (fun e => by
          rw [← h1, ← e] at h
          simp at h)
        rw [h2]
        simp
      · rw [beq_eq_false_iff_ne.2 h1]; rfl
    | succ k => exact safe_no r (y :: t) h.2 k (by simpa using hk)
/-- One byte's pieces are put in place of it. -/
theorem esc_step (e : UInt8 → Bytes) (d : UInt8) (w : Bytes) (hw : ([d] == w) = false) (hd : e d = [d]) (h : ∀ c, c ≠ d → ∀ x ∈ e c, x ≠ d) :
    ∀ l : Bytes, Lib.replaceAll (l.flatMap e) [d] w = l.flatMap fun c => if c = d then w else e c
  | [] => rep_nil hw (by simp)
  | c :: l => by
    have ih := esc_step e d w hw hd h l
    rw [List.flatMap_cons, List.flatMap_cons]
    by_cases hc : c = d
    · rw [if_pos hc, hc, hd, rep_here hw (by simp), ih]
    · rw [if_neg hc, rep_over hw (by simp) _ (e c) (fun k hk => by
        have hx : (e c)[k] ≠ d := h c hc _ (List.getElem_mem hk)
        rw [List.drop_eq_getElem_cons (by rw [List.length_append]; omega), List.getElem_append_left hk]
        show ((d == (e c)[k]) && _) = false
        rw [beq_eq_false_iff_ne.2 (fun q => hx q.symm)]
        rfl), ih]
/-- And back. -/
theorem un_step (e : UInt8 → Bytes) (d w0 w1 : UInt8) (w' : Bytes) (h : ∀ c, c ≠ d → safeB w0 w1 (e c) = true) :
    ∀ l : Bytes, Lib.replaceAll (l.flatMap fun c => if c = d then w0 :: w1 :: w' else e c) (w0 :: w1 :: w') [d] = l.flatMap fun c => if c = d then [d] else e c
  | [] => rep_nil (by simp) (by simp)
  | c :: l => by
    have hw : ((w0 :: w1 :: w') == [d]) = false := by simp
    have ih := un_step e d w0 w1 w' h l
    rw [List.flatMap_cons, List.flatMap_cons]
    by_cases hc : c = d
    · rw [if_pos hc, if_pos hc, rep_here hw (by simp), ih]
    · rw [if_neg hc, if_neg hc, rep_over hw (by simp) _ (e c) (safe_no _ _ (h c hc)), ih]

def e1 (c : UInt8) : Bytes := if c = 38 then wAmp else [c]
def e2 (c : UInt8) : Bytes := if c = 60 then wLt else e1 c
def e3 (c : UInt8) : Bytes := if c = 62 then wGt else e2 c
def e4 (c : UInt8) : Bytes := if c = 34 then wQuot else e3 c
def e5 (c : UInt8) : Bytes := if c = 39 then wApos else e4 c
theorem e5_is (c : UInt8) : e5 c = esc1 c := by
  have := byte_all (P := fun c => e5 c == esc1 c) (by decide +kernel) c
  exact beq_iff_eq.1 this
def chainE (s : Bytes) : Bytes := Lib.replaceAll (Lib.replaceAll (Lib.replaceAll (Lib.replaceAll (Lib.replaceAll s [38] wAmp) [60] wLt) [62] wGt) [34] wQuot) [39] wApos
def chainU (s : Bytes) : Bytes := Lib.replaceAll (Lib.replaceAll (Lib.replaceAll (Lib.replaceAll (Lib.replaceAll s wApos [39]) wQuot [34]) wGt [62]) wLt [60]) wAmp [38]
theorem no_of {e : UInt8 → Bytes} {d : UInt8} (h : ∀ n : Nat, n < 256 → ((UInt8.ofNat n == d) || (e (UInt8.ofNat n)).all (fun x => !(x == d))) = true) : ∀ c, c ≠ d → ∀ x ∈ e c, x ≠ d := by
  intro c hc x hx
  have := byte_all (P := fun c => (c == d) || (e c).all (fun x => !(x == d))) h c
  rw [beq_eq_false_iff_ne.2 hc, Bool.false_or] at this
  simpa using List.all_eq_true.1 this x hx
theorem safe_of {e : UInt8 → Bytes} {d w0 w1 : UInt8} (h : ∀ n : Nat, n < 256 → ((UInt8.ofNat n == d) || safeB w0 w1 (e (UInt8.ofNat n))) = true) : ∀ c, c ≠ d → safeB w0 w1 (e c) = true := by
  intro c hc
  have := byte_all (P := fun c => (c == d) || safeB w0 w1 (e c)) h c
  rwa [beq_eq_false_iff_ne.2 hc, Bool.false_or] at this
theorem single (l : Bytes) : l.flatMap (fun c => [c]) = l := by simp
/-- What the program's Escape makes is what the document says. -/
theorem chainE_is (l : Bytes) : chainE l = escape l := by
  have s1 := esc_step (fun c => [c]) 38 wAmp (by decide) rfl (no_of (by decide +kernel)) l
  have s2 := esc_step e1 60 wLt (by decide) (by decide) (no_of (by decide +kernel)) l
  have s3 := esc_step e2 62 wGt (by decide) (by decide) (no_of (by decide +kernel)) l
  have s4 := esc_step e3 34 wQuot (by decide) (by decide) (no_of (by decide +kernel)) l
  have s5 := esc_step e4 39 wApos (by decide) (by decide) (no_of (by decide +kernel)) l
  unfold chainE escape
  rw [single] at s1
  rw [s1]
  show Lib.replaceAll (Lib.replaceAll (Lib.replaceAll (Lib.replaceAll (l.flatMap e1) [60] wLt) [62] wGt) [34] wQuot) [39] wApos = _
  rw [s2]
  show Lib.replaceAll (Lib.replaceAll (Lib.replaceAll (l.flatMap e2) [62] wGt) [34] wQuot) [39] wApos = _
  rw [s3]
  show Lib.replaceAll (Lib.replaceAll (l.flatMap e3) [34] wQuot) [39] wApos = _
  rw [s4]
  show Lib.replaceAll (l.flatMap e4) [39] wApos = _
  rw [s5]
  show l.flatMap e5 = l.flatMap esc1
  congr 1
  funext c
  exact e5_is c
theorem back_of {e : UInt8 → Bytes} {d : UInt8} (hd : e d = [d]) (l : Bytes) : (l.flatMap fun c => if c = d then [d] else e c) = l.flatMap e := by
  congr 1
  funext c
  by_cases hc : c = d
  · rw [if_pos hc, hc, hd]
  · rw [if_neg hc]
/-- What is escaped is told back. -/
theorem chainU_escape (l : Bytes) : chainU (escape l) = l := by
  have s5 := un_step e4 39 38 35 [51, 57, 59] (safe_of (by decide +kernel)) l
  have s4 := un_step e3 34 38 113 [117, 111, 116, 59] (safe_of (by decide +kernel)) l
  have s3 := un_step e2 62 38 103 [116, 59] (safe_of (by decide +kernel)) l
  have s2 := un_step e1 60 38 108 [116, 59] (safe_of (by decide +kernel)) l
  have s1 := un_step (fun c => [c]) 38 38 97 [109, 112, 59] (safe_of (by decide +kernel)) l
  rw [back_of (by decide)] at s5 s4 s3 s2
  rw [back_of rfl, single] at s1
  have h : escape l = l.flatMap e5 := by
    unfold escape
    congr 1
    funext c
    exact (e5_is c).symm
  unfold chainU
  rw [h]
  rw [show Lib.replaceAll (l.flatMap e5) wApos [39] = l.flatMap e4 from s5, show Lib.replaceAll (l.flatMap e4) wQuot [34] = l.flatMap e3 from s4, show Lib.replaceAll (l.flatMap e3) wGt [62] = l.flatMap e2 from s3, show Lib.replaceAll (l.flatMap e2) wLt [60] = l.flatMap e1 from s2]
  exact s1
/-- What a text was, if there is one. -/
def unescape (s : Bytes) : Option Bytes := if escape (chainU s) = s then some (chainU s) else none
theorem unescape_is (s p : Bytes) : unescape s = some p ↔ s = escape p := by
  unfold unescape
  constructor
  · intro h
    split at h
    · rename_i hc
      injection h with h
      rw [← h, hc]
    · cases h
  · rintro rfl
    rw [chainU_escape, if_pos rfl]
theorem escape_inj {a b : Bytes} (h : escape a = escape b) : a = b := by
  have := chainU_escape a
  rw [h, chainU_escape] at this
  exact this.symm
theorem escape_app (a b : Bytes) : escape (a ++ b) = escape a ++ escape b := by unfold escape; rw [List.flatMap_append]
end Xm
end Go.Proofs.YtpleaopefngafaaDoor
