/- What is written of an element is guessed as it was; no program stands in it. No condition. -/
import Derived.Test.YtpleaopefngafaaDoorXmN
namespace Go.Proofs.YtpleaopefngafaaDoor
set_option maxRecDepth 8000
namespace Xm

theorem take_none {t : Bytes} (h : ∀ x ∈ t, x ≠ 60) (r : Bytes) (hr : ∀ x y, r = x :: y → x = 60) : (t ++ r).takeWhile (· != 60) = t ∧ (t ++ r).dropWhile (· != 60) = r := by
  induction t with
  | nil =>
    cases r with
    | nil => exact ⟨rfl, rfl⟩
    | cons x y =>
      obtain rfl := hr x y rfl
      exact ⟨rfl, rfl⟩
  | cons c t ih =>
    have hc : (c != 60) = true := by simpa using h c (by simp)
    have := ih (fun x hx => h x (by simp [hx]))
    rw [List.cons_append, List.takeWhile_cons, List.dropWhile_cons, hc]
    exact ⟨by rw [if_pos rfl, this.1], by rw [if_pos rfl, this.2]⟩
theorem cutM_is (a t r : Bytes) (ha : ∀ x ∈ a, x ≠ 62) (ht : ∀ x ∈ t, x ≠ 60) (hr : ∀ x y, r = x :: y → x = 60) : cutM (a ++ 62 :: (t ++ r)) = (a, t, r) := by
  have e : Lib.cut (a ++ 62 :: (t ++ r)) [62] = (a, t ++ r, true) := cut_at 62 [] a (t ++ r) ha
  unfold cutM
  rw [e]
  have := take_none ht r hr
  exact Prod.ext rfl (Prod.ext this.1 this.2)
def addKids : N → List N → N
  | .mk nm as tx ks, l => .mk nm as tx (ks ++ l)
theorem addKids_nil (p : N) : addKids p [] = p := by cases p; simp [addKids]
theorem addKids_cons (p k : N) (l : List N) : addKids (addKid p k) l = addKids p (k :: l) := by cases p; simp [addKids, addKid]
theorem wr_head (n : N) : ∃ m, wr n = 60 :: m := by
  cases n with
  | mk nm as tx ks => exact ⟨_, by unfold wr; rfl⟩
theorem wrL_head (ks : List N) (r : Bytes) (hr : ∃ m, r = 60 :: m) : ∃ m, wrL ks ++ r = 60 :: m := by
  cases ks with
  | nil => exact hr
  | cons k ks =>
    obtain ⟨m, hm⟩ := wr_head k
    unfold wrL
    rw [hm]
    exact ⟨_, rfl⟩
theorem head_is {r : Bytes} (h : ∃ m, r = 60 :: m) : ∀ x y, r = x :: y → x = 60 := by
  obtain ⟨m, rfl⟩ := h
  intro x y e
  injection e with e _
  exact e.symm
theorem guess_succ (f : Nat) (rs : List N) (s : Bytes) : guess (f + 1) rs s =
    if Lib.hasPrefix (cutM s).1 [60] = false then zero
    else if Lib.hasPrefix (cutM s).1 [60, 47] = false then guess f (elementG ((cutM s).1.drop 1) (cutM s).2.1 :: rs) (cutM s).2.2
    else match rs with
      | [] => zero
      | [t] => t
      | t :: p :: r => guess f (addKid p t :: r) (cutM s).2.2 := rfl
/-- The opening mark. -/
theorem guess_open {nm : Bytes} {as : List PairL} {tx : Bytes} (hn : nameB nm = true) (ha : as.all attrB = true) (f : Nat) (rs : List N) (r : Bytes) (hr : ∃ m, r = 60 :: m) :
    guess (f + 1) rs ((60 :: (nm ++ attrsS as)) ++ (62 :: (escape tx ++ r))) = guess f (.mk nm as tx [] :: rs) r := by
  have hm : ∀ x ∈ (60 :: (nm ++ attrsS as)), x ≠ 62 := by
    intro x hx
    rcases List.mem_cons.1 hx with rfl | hx
    · decide
    · rcases List.mem_append.1 hx with hx | hx
      · exact (nb_ne (name_byte hn x hx)).2.2.1
      · exact (attrs_ne ha x hx).1
  have e := cutM_is (60 :: (nm ++ attrsS as)) (escape tx) r hm (fun x hx => (esc_ne x hx).1) (head_is hr)
  have h1 : Lib.hasPrefix (60 :: (nm ++ attrsS as)) [60] = true := by simp [Lib.hasPrefix]
  have h2 : Lib.hasPrefix (60 :: (nm ++ attrsS as)) [60, 47] = false := by
    cases nm with
    | nil => simp [nameB] at hn
    | cons c l =>
      have := (nb_ne (name_byte hn c (by simp))).2.2.2.2
      simp [Lib.hasPrefix, List.isPrefixOf, Ne.symm this]
  rw [guess_succ, e, if_neg (by rw [h1]; decide), if_pos h2]
  rw [show (60 :: (nm ++ attrsS as)).drop 1 = nm ++ attrsS as from rfl, elementG_is hn ha]
/-- The closing mark of one that lies in another. -/
theorem guess_close {nm : Bytes} (hn : nameB nm = true) (f : Nat) (t p : N) (rs : List N) (r : Bytes) (hr : ∃ m, r = 60 :: m) :
    guess (f + 1) (t :: p :: rs) (60 :: 47 :: (nm ++ (62 :: r))) = guess f (addKid p t :: rs) r := by
  have hm : ∀ x ∈ (60 :: 47 :: nm), x ≠ 62 := by
    intro x hx
    rcases List.mem_cons.1 hx with rfl | hx
    · decide
    · rcases List.mem_cons.1 hx with rfl | hx
      · decide
      · exact (nb_ne (name_byte hn x hx)).2.2.1
  have e := cutM_is (60 :: 47 :: nm) [] r hm (fun x hx => by cases hx) (head_is hr)
  have h1 : Lib.hasPrefix (60 :: 47 :: nm) [60] = true := by simp [Lib.hasPrefix]
  have h2 : Lib.hasPrefix (60 :: 47 :: nm) [60, 47] = true := by simp [Lib.hasPrefix]
  rw [show (60 :: 47 :: (nm ++ (62 :: r)) : Bytes) = (60 :: 47 :: nm) ++ 62 :: ([] ++ r) by simp]
  rw [guess_succ, e, if_neg (by rw [h1]; decide), if_neg (by rw [h2]; decide)]
theorem guess_last {nm : Bytes} (hn : nameB nm = true) (f : Nat) (t : N) : guess (f + 1) [t] (60 :: 47 :: (nm ++ [62])) = t := by
  have hm : ∀ x ∈ (60 :: 47 :: nm), x ≠ 62 := by
    intro x hx
    rcases List.mem_cons.1 hx with rfl | hx
    · decide
    · rcases List.mem_cons.1 hx with rfl | hx
      · decide
      · exact (nb_ne (name_byte hn x hx)).2.2.1
  have e := cutM_is (60 :: 47 :: nm) [] [] hm (fun x hx => by cases hx) (fun x y h => by cases h)
  have h1 : Lib.hasPrefix (60 :: 47 :: nm) [60] = true := by simp [Lib.hasPrefix]
  have h2 : Lib.hasPrefix (60 :: 47 :: nm) [60, 47] = true := by simp [Lib.hasPrefix]
  rw [show (60 :: 47 :: (nm ++ [62]) : Bytes) = (60 :: 47 :: nm) ++ 62 :: ([] ++ []) by simp]
  rw [guess_succ, e, if_neg (by rw [h1]; decide), if_neg (by rw [h2]; decide)]
theorem own_parts {nm : Bytes} {as : List PairL} {tx : Bytes} {ks : List N} (h : own (.mk nm as tx ks) = true) : nameB nm = true ∧ as.all attrB = true ∧ ownL ks = true := by
  unfold own at h
  simp only [Bool.and_eq_true] at h
  exact ⟨h.1.1.1.1.1, h.1.1.1.1.2, h.2⟩
mutual
theorem guess_wr : ∀ (n : N), own n = true → ∀ (f : Nat) (p : N) (rs : List N) (r : Bytes), (∃ m, r = 60 :: m) → guess (2 * size n + f) (p :: rs) (wr n ++ r) = guess f (addKid p n :: rs) r
  | .mk nm as tx ks, h, f, p, rs, r, hr => by
    obtain ⟨h1, h2, h3⟩ := own_parts h
    unfold size wr
    have hr2 : ∃ m, (60 :: 47 :: (nm ++ 62 :: r) : Bytes) = 60 :: m := ⟨_, rfl⟩
    rw [show 2 * (sizeL ks + 1) + f = (2 * sizeL ks + (f + 1)) + 1 by omega]
    have e : (60 :: (nm ++ attrsS as) ++ (62 :: (escape tx ++ (wrL ks ++ (60 :: 47 :: (nm ++ [62])))))) ++ r = (60 :: (nm ++ attrsS as)) ++ (62 :: (escape tx ++ (wrL ks ++ (60 :: 47 :: (nm ++ 62 :: r))))) := by simp
    rw [e, guess_open h1 h2 _ _ _ (wrL_head ks _ hr2), guess_wrL ks h3 _ _ _ _ hr2, guess_close h1 _ _ _ _ _ hr]
    rfl
theorem guess_wrL : ∀ (ks : List N), ownL ks = true → ∀ (f : Nat) (p : N) (rs : List N) (r : Bytes), (∃ m, r = 60 :: m) → guess (2 * sizeL ks + f) (p :: rs) (wrL ks ++ r) = guess f (addKids p ks :: rs) r
  | [], _, f, p, rs, r, _ => by
    unfold sizeL wrL
    rw [addKids_nil, Nat.mul_zero, Nat.zero_add]
    rfl
  | k :: ks, h, f, p, rs, r, hr => by
    unfold ownL at h
    rw [Bool.and_eq_true] at h
    unfold sizeL wrL
    rw [show 2 * (size k + sizeL ks) + f = 2 * size k + (2 * sizeL ks + f) by omega, List.append_assoc,
      guess_wr k h.1 _ _ _ _ (wrL_head ks r hr), guess_wrL ks h.2 _ _ _ _ hr, addKids_cons]
end
theorem guess_all (n : N) (f : Nat) (h : own n = true) (hs : 2 * size n ≤ f) : guess f [] (wr n) = n := by
  cases n with
  | mk nm as tx ks =>
    obtain ⟨h1, h2, h3⟩ := own_parts h
    unfold size at hs
    obtain ⟨q, rfl⟩ : ∃ q, f = (2 * sizeL ks + (q + 1)) + 1 := ⟨f - 2 - 2 * sizeL ks, by omega⟩
    have hr2 : ∃ m, (60 :: 47 :: (nm ++ [62]) : Bytes) = 60 :: m := ⟨_, rfl⟩
    unfold wr
    rw [guess_open h1 h2 _ _ _ (wrL_head ks _ hr2), guess_wrL ks h3 _ _ _ _ hr2, guess_last h1]
    rfl
theorem guess_right {n : N} (h : right n = true) : guess 400 [] (wr n) = n := by
  unfold right at h
  rw [Bool.and_eq_true] at h
  obtain ⟨r, hr⟩ := Option.isSome_iff_exists.1 h.1
  have := few_size n 8 200 r hr
  exact guess_all n 400 h.2 (by omega)
/-- What a text tells. -/
def read (s : Bytes) : Option N := if right (guess 400 [] s) && (wr (guess 400 [] s) == s) then some (guess 400 [] s) else none
theorem read_is (s : Bytes) (n : N) : read s = some n ↔ right n = true ∧ wr n = s := by
  unfold read
  constructor
  · intro h
    split at h
    · rename_i hc
      rw [Bool.and_eq_true] at hc
      cases h
      exact ⟨hc.1, by simpa using hc.2⟩
    · cases h
  · rintro ⟨h1, rfl⟩
    rw [guess_right h1, h1]
    simp
theorem wr_inj {a b : N} (ha : right a = true) (hb : right b = true) (h : wr a = wr b) : a = b := by
  have h1 := guess_right ha
  rw [h, guess_right hb] at h1
  exact h1.symm
end Xm
end Go.Proofs.YtpleaopefngafaaDoor
