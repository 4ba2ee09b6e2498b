/- What package url's cutScheme and cutPort answer, for any text of at most 2^30 bytes, where the variables of the library and of package pct that they reach read as their texts lay them. -/
import Derived.Test.YtbpeohadgplaaaaDoorVc
namespace Go.Proofs.YtbpeohadgplaaaaDoor
set_option maxRecDepth 8000
open Go.RowKit

/-- What the calls read of package-level variables. -/
structure Env (w : World) : Prop where
  digs : Digs w
  big : ∃ m, w.cell? ⟨0, 0, none⟩ = some (.int .i64 m)
  tab : Lib.TabIs Tryd.prog w "internal/strconv.uint64pow10" .u64 Lib.pow10Tab
  lt : 0 < w.heap.size ∧ 1 < w.heap.size ∧ 4 < w.heap.size

theorem gTab : Tryd.prog.globalNamed "internal/strconv.uint64pow10" = some 4 := by kernel_rfl

theorem Env.below {base : Nat} {w w' : World} (h : Env w) (hb : Below base w w') (h5 : 0 < base ∧ 1 < base ∧ 4 < base) : Env w' := by
  have hbs := hb.size
  have hlt := h.lt
  refine ⟨h.digs.below hb h5.2.1, ?_, ?_, ⟨Nat.lt_of_lt_of_le hlt.1 hbs, Nat.lt_of_lt_of_le hlt.2.1 hbs, Nat.lt_of_lt_of_le hlt.2.2 hbs⟩⟩
  · obtain ⟨m, hm⟩ := h.big
    exact ⟨m, (hb.cell (p := ⟨0, 0, none⟩) h5.1).trans hm⟩
  · have ht := h.tab
    unfold Lib.TabIs World.var? at ht ⊢
    rw [gTab] at ht ⊢
    simp only [Option.bind_some] at ht ⊢
    rw [hb.block 4 h5.2.2]
    exact ht
theorem Env.next {w w' : World} (h : Env w) (hb : Below w.heap.size w w') : Env w' := h.below hb h.lt

/-! ### The scheme -/
theorem index_sep : ∀ (a b : List UInt8), (∀ x ∈ a, x ≠ 58) → Lib.index (a ++ (Url.sep ++ b)) Url.sep = (a.length : Int)
  | [], b, _ => by
    show Lib.index (58 :: 47 :: 47 :: b) [58, 47, 47] = 0
    unfold Lib.index
    rw [if_pos (by simp [List.isPrefixOf])]
  | c :: a, b, h => by
    have ih := index_sep a b (fun x hx => h x (by simp [hx]))
    have hc := h c (by simp)
    rw [List.cons_append]
    unfold Lib.index
    rw [ih, if_neg (by
      unfold Url.sep
      simp [List.isPrefixOf]
      intro e
      exact absurd e.symm hc), if_neg (by simp)]
    simp
theorem index_parts : ∀ (l : List UInt8) (i : Nat), Lib.index l Url.sep = (i : Int) → l = l.take i ++ (Url.sep ++ l.drop (i + 3))
  | [], i, h => by
    unfold Lib.index at h
    rw [if_neg (by decide)] at h
    omega
  | c :: l, i, h => by
    unfold Lib.index at h
    by_cases h1 : Url.sep.isPrefixOf (c :: l) = true
    · rw [if_pos h1] at h
      obtain rfl : i = 0 := by omega
      obtain ⟨t, ht⟩ := List.isPrefixOf_iff_prefix.1 h1
      rw [← ht]
      simp [Url.sep]
    · rw [if_neg h1] at h
      split at h
      · omega
      · rename_i hne
        have hne' : Lib.index l Url.sep ≠ -1 := by simpa using hne
        have hge := Lib.index_ge l Url.sep
        obtain ⟨k, rfl⟩ : ∃ k, i = k + 1 := ⟨i - 1, by omega⟩
        have ih := index_parts l k (by omega)
        show c :: l = c :: (l.take k ++ (Url.sep ++ l.drop (k + 3)))
        rw [← ih]
theorem small_append (a b : List UInt8) : Url.small (a ++ b) = Url.small a ++ Url.small b := by simp [Url.small]
theorem small_len (a : List UInt8) : (Url.small a).length = a.length := by simp [Url.small]
theorem lower_58 (c : UInt8) : (Url.lower c = 58 → c = 58) := by
  have := Url.byte_all (P := fun c => !(Url.lower c == 58) || c == 58) (by decide +kernel) c
  intro h
  rw [h] at this
  simpa using this
theorem lower_47 (c : UInt8) : (Url.lower c = 47 → c = 47) := by
  have := Url.byte_all (P := fun c => !(Url.lower c == 47) || c == 47) (by decide +kernel) c
  intro h
  rw [h] at this
  simpa using this
theorem small_sep {x : List UInt8} (h : Url.small x = Url.sep) : x = Url.sep := by
  match x, h with
  | [a, b, c], h =>
    unfold Url.small Url.sep at h
    simp at h
    rw [lower_58 a h.1, lower_47 b h.2.1, lower_47 c h.2.2]
    rfl
  | [], h => cases h
  | [_], h => simp [Url.small, Url.sep] at h
  | [_, _], h => simp [Url.small, Url.sep] at h
  | _ :: _ :: _ :: _ :: _, h => simp [Url.small, Url.sep] at h
theorem no_58 {a sc : List UInt8} (hs : ∀ x ∈ sc, x ≠ 58) (h : Url.small a = sc) : ∀ x ∈ a, x ≠ 58 := by
  rintro x hx rfl
  refine hs 58 ?_ rfl
  rw [← h]
  exact List.mem_map.2 ⟨58, hx, by decide⟩
theorem take_iff (sc l : List UInt8) (n : Nat) (hn : sc.length = n) : Url.small (l.take (n + 3)) = sc ++ Url.sep ↔ ∃ a b, l = a ++ (Url.sep ++ b) ∧ Url.small a = sc := by
  constructor
  · intro h
    have hl : (l.take (n + 3)).length = n + 3 := by
      rw [← small_len, h]
      simp [hn, Url.sep]
    have e : l.take (n + 3) = l.take n ++ (l.drop n).take 3 := by rw [List.take_add]
    rw [e, small_append] at h
    have hl2 : (l.take n).length = n := by
      rw [List.length_take] at hl ⊢
      omega
    have := List.append_inj h (by rw [small_len, hl2, hn])
    refine ⟨l.take n, l.drop (n + 3), ?_, this.1⟩
    have e2 := small_sep this.2
    rw [← e2, ← List.append_assoc, ← e, List.take_append_drop]
  · rintro ⟨a, b, rfl, rfl⟩
    rw [small_len] at hn
    have : (a ++ (Url.sep ++ b)).take (n + 3) = a ++ Url.sep := by
      rw [← List.append_assoc]
      have h3 : (a ++ Url.sep).length = n + 3 := by simp [hn, Url.sep]
      rw [← h3, List.take_left']
      rfl
    rw [this, small_append]
    rfl
theorem http_no : ∀ x ∈ Url.http, x ≠ 58 := by decide
theorem https_no : ∀ x ∈ Url.https, x ≠ 58 := by decide

def schemeCut (l : List UInt8) : Option (List UInt8 × List UInt8) :=
  if 0 ≤ Lib.index l Url.sep then
    if Url.small (l.take (Lib.index l Url.sep).toNat) = Url.http ∨ Url.small (l.take (Lib.index l Url.sep).toNat) = Url.https then some (Url.small (l.take (Lib.index l Url.sep).toNat), l.drop ((Lib.index l Url.sep).toNat + 3)) else none
  else none
theorem scheme_cut (l : List UInt8) : Url.schemeOf l = schemeCut l := by
  have t1 := take_iff Url.http l 4 rfl
  have t2 := take_iff Url.https l 5 rfl
  have u1 : ∀ a b, l = a ++ (Url.sep ++ b) → Url.small a = Url.http → Lib.index l Url.sep = 4 ∧ a = l.take 4 := by
    intro a b h1 h2
    have hn : a.length = 4 := by rw [← small_len, h2]; rfl
    refine ⟨by rw [h1, index_sep a b (no_58 http_no h2), hn]; rfl, ?_⟩
    rw [h1, ← hn, List.take_left']
    rfl
  have u2 : ∀ a b, l = a ++ (Url.sep ++ b) → Url.small a = Url.https → Lib.index l Url.sep = 5 ∧ a = l.take 5 := by
    intro a b h1 h2
    have hn : a.length = 5 := by rw [← small_len, h2]; rfl
    refine ⟨by rw [h1, index_sep a b (no_58 https_no h2), hn]; rfl, ?_⟩
    rw [h1, ← hn, List.take_left']
    rfl
  unfold Url.schemeOf schemeCut
  by_cases c1 : Url.small (l.take 7) = Url.http ++ Url.sep
  · obtain ⟨a, b, h1, h2⟩ := t1.1 c1
    obtain ⟨h3, h4⟩ := u1 a b h1 h2
    rw [if_pos c1, h3, if_pos (by decide)]
    have e : (4 : Int).toNat = 4 := rfl
    rw [e, ← h4, if_pos (.inl h2), h2]
  · rw [if_neg c1]
    by_cases c2 : Url.small (l.take 8) = Url.https ++ Url.sep
    · obtain ⟨a, b, h1, h2⟩ := t2.1 c2
      obtain ⟨h3, h4⟩ := u2 a b h1 h2
      rw [if_pos c2, h3, if_pos (by decide)]
      have e : (5 : Int).toNat = 5 := rfl
      rw [e, ← h4, if_pos (.inr h2), h2]
    · rw [if_neg c2]
      by_cases h0 : 0 ≤ Lib.index l Url.sep
      · rw [if_pos h0]
        obtain ⟨i, hi⟩ : ∃ i : Nat, Lib.index l Url.sep = (i : Int) := ⟨(Lib.index l Url.sep).toNat, by omega⟩
        have hp := index_parts l i hi
        rw [hi, if_neg]
        rintro (h | h)
        · exact c1 (t1.2 ⟨_, _, hp, h⟩)
        · exact c2 (t2.2 ⟨_, _, hp, h⟩)
      · rw [if_neg h0]

def schemeRes (o : Option (List UInt8 × List UInt8)) : Ending :=
  match o with
  | some (sc, r) => .returned (.tuple #[.string (S sc), .string (S r), .bool true])
  | none => .returned (.tuple #[.string ⟨#[]⟩, .string ⟨#[]⟩, .bool false])

theorem cut_sep (l : List UInt8) (w : World) (he : Env w) (hs : l.length ≤ 1073741824) :
    Calls Tryd.prog 42 #[.string (S l), .string ⟨#[58, 47, 47]⟩] w fun e w' => e = .returned (.tuple #[.string (S (Lib.cut l Url.sep).1), .string (S (Lib.cut l Url.sep).2.1), .bool (Lib.cut l Url.sep).2.2]) ∧ Below w.heap.size w w' := by
  obtain ⟨m, hm⟩ := he.big
  refine (Tryd.strings_Cut (S l) ⟨#[58, 47, 47]⟩ m w (by show l.length < _; omega) hm).mono ?_
  rintro e w' ⟨rfl, n, rfl⟩
  exact ⟨rfl, below_drewN (Below.refl _ _) n⟩

set_option maxHeartbeats 400000 in
theorem cutScheme_any (l : List UInt8) (w : World) (he : Env w) (hs : l.length ≤ 1073741824) :
    Calls Tryd.prog 37 #[.string (S l)] w (Told w (schemeRes (Url.schemeOf l))) := by
  have hS := S_list
  have hc := cut_sep l w he hs
  rw [scheme_cut]
  unfold Lib.cut at hc
  unfold schemeCut
  by_cases h0 : 0 ≤ Lib.index l Url.sep
  · rw [if_pos h0]
    rw [if_pos h0] at hc
    obtain ⟨i, hi⟩ : ∃ i : Nat, (Lib.index l Url.sep).toNat = i := ⟨_, rfl⟩
    rw [hi] at hc ⊢
    clear hi h0
    have e3 : Url.sep.length = 3 := rfl
    rw [e3] at hc
    clear e3
    obtain ⟨a, ha⟩ : ∃ a, l.take i = a := ⟨_, rfl⟩
    obtain ⟨r, hr⟩ : ∃ r, l.drop (i + 3) = r := ⟨_, rfl⟩
    have hal : a.length ≤ 1073741824 := by rw [← ha]; exact Nat.le_trans (List.length_take_le' _ _) hs
    rw [ha, hr] at hc ⊢
    clear ha hr
    simp only at hc
    have hsm : ∀ w1 : World, Calls Tryd.prog 44 #[.string (S a)] w1 (Told w1 (.returned (.string (S (Url.small a))))) := fun w1 => small_any (S a) w1 hal
    generalize Url.small a = b at hsm ⊢
    clear hal
    by_cases h1 : b = Url.http
    · subst h1
      rw [if_pos (.inl rfl)]
      go_enter Tryd.func37, Tryd.ntmps37
      go_wp2_with (first
        | (go_at_call 42; refine hc.mono ?_; rintro e w1 ⟨rfl, hb1⟩)
        | (go_at_call 44; refine (hsm _).mono ?_; rintro e w2 ⟨rfl, hb2⟩))
      go_ret3
      exact ⟨rfl, hb1.trans (hb2.mono hb1.size)⟩
    · by_cases h2 : b = Url.https
      · subst h2
        rw [if_pos (.inr rfl)]
        go_enter Tryd.func37, Tryd.ntmps37
        go_wp2_with (first
          | (go_at_call 42; refine hc.mono ?_; rintro e w1 ⟨rfl, hb1⟩)
          | (go_at_call 44; refine (hsm _).mono ?_; rintro e w2 ⟨rfl, hb2⟩))
        go_ret3
        exact ⟨rfl, hb1.trans (hb2.mono hb1.size)⟩
      · rw [if_neg (by rintro (h | h); exact h1 h; exact h2 h)]
        have e1 : (b == [104, 116, 116, 112]) = false := beq_eq_false_iff_ne.2 h1
        have e2 : (b == [104, 116, 116, 112, 115]) = false := beq_eq_false_iff_ne.2 h2
        clear h1 h2
        go_enter Tryd.func37, Tryd.ntmps37
        go_wp2_with (first
          | (go_at_call 42; refine hc.mono ?_; rintro e w1 ⟨rfl, hb1⟩)
          | (go_at_call 44; refine (hsm _).mono ?_; rintro e w2 ⟨rfl, hb2⟩))
        go_ret3
        exact ⟨rfl, hb1.trans (hb2.mono hb1.size)⟩
  · rw [if_neg h0]
    rw [if_neg h0] at hc
    clear h0
    simp only at hc
    have hsm : ∀ w1 : World, Calls Tryd.prog 44 #[.string (S l)] w1 (Told w1 (.returned (.string (S (Url.small l))))) := fun w1 => small_any (S l) w1 hs
    generalize Url.small l = b at hsm
    go_enter Tryd.func37, Tryd.ntmps37
    go_wp2_with (first
      | (go_at_call 42; refine hc.mono ?_; rintro e w1 ⟨rfl, hb1⟩)
      | (go_at_call 44; refine (hsm _).mono ?_; rintro e w2 ⟨rfl, hb2⟩))
    go_ret3
    exact ⟨rfl, hb1.trans (hb2.mono hb1.size)⟩

/-! ### The port -/
def portPart (r : List UInt8) : Option (Nat × List UInt8) :=
  match r with
  | [] => some (0, [])
  | c :: t => if c = 58 then (Url.portOf (t.takeWhile Url.noEnd)).map fun n => (n, t.dropWhile Url.noEnd) else some (0, c :: t)
def portPRes (o : Option (Nat × List UInt8)) : Ending :=
  match o with
  | some (n, r) => .returned (.tuple #[.int .i64 (n : Int), .string (S r), .bool true])
  | none => .returned (.tuple #[.int .i64 0, .string ⟨#[]⟩, .bool false])

theorem cutPrefix_to (l p : List UInt8) (w : World) :
    Calls Tryd.prog 73 #[.string (S l), .string (S p)] w fun e w' => e = .returned (.tuple #[.string (S (Lib.trimPrefix l p)), .bool (Lib.hasPrefix l p)]) ∧ w' = w :=
  Tryd.strings_CutPrefix (S l) (S p) w
theorem noEnd_in : noneIn [47, 63, 35] = Url.noEnd := by
  funext c
  have := Url.byte_all (P := fun c => noneIn [47, 63, 35] c == Url.noEnd c) (by decide +kernel) c
  simpa using this
theorem noDelim_in : noneIn [47, 63, 35, 58] = Url.noDelim := by
  funext c
  have := Url.byte_all (P := fun c => noneIn [47, 63, 35, 58] c == Url.noDelim c) (by decide +kernel) c
  simpa using this
theorem low_of (o : List UInt8) (h : o.all (fun b => decide (b.toNat < 128)) = true) : Low (S o) := by
  intro j b hb
  exact of_decide_eq_true (List.all_eq_true.1 h b (List.mem_of_getElem? hb))
theorem cutEnd (l : List UInt8) (w : World) (hs : l.length ≤ 1073741824) :
    Calls Tryd.prog 38 #[.string (S l), .string ⟨#[47, 63, 35]⟩] w (Told w (.returned (.tuple #[.string (S (l.takeWhile Url.noEnd)), .string (S (l.dropWhile Url.noEnd))]))) := by
  have := cutAhead_any l [47, 63, 35] w (low_of _ (by decide)) (by decide) (by decide) hs
  rw [noEnd_in] at this
  exact this
theorem cutDelim (l : List UInt8) (w : World) (hs : l.length ≤ 1073741824) :
    Calls Tryd.prog 38 #[.string (S l), .string ⟨#[47, 63, 35, 58]⟩] w (Told w (.returned (.tuple #[.string (S (l.takeWhile Url.noDelim)), .string (S (l.dropWhile Url.noDelim))]))) := by
  have := cutAhead_any l [47, 63, 35, 58] w (low_of _ (by decide)) (by decide) (by decide) hs
  rw [noDelim_in] at this
  exact this

theorem portOf_to (d : List UInt8) (w : World) (hs : d.length ≤ 1073741824) :
    Calls Tryd.prog 74 #[.string (S d)] w fun e w' => e = .returned (.tuple #[.int .i64 (((Url.portOf d).getD 0 : Nat) : Int), .bool (Url.portOf d).isSome]) ∧ w' = w :=
  (portOf_any (S d) w hs).mono fun _ _ ⟨he, hw⟩ => ⟨he, hw.symm⟩

set_option maxHeartbeats 400000 in
theorem cutPort_any (l : List UInt8) (w : World) (hs : l.length ≤ 1073741824) :
    Calls Tryd.prog 40 #[.string (S l)] w (Told w (portPRes (portPart l))) := by
  have hcp : ∀ w1 : World, Calls Tryd.prog 73 #[.string (S l), .string ⟨#[58]⟩] w1 fun e w' => e = .returned (.tuple #[.string (S (Lib.trimPrefix l [58])), .bool (Lib.hasPrefix l [58])]) ∧ w' = w1 := fun w1 => cutPrefix_to l [58] w1
  by_cases hp : ∃ t, l = 58 :: t
  · obtain ⟨t, rfl⟩ := hp
    have e1 : Lib.hasPrefix (58 :: t) [58] = true := by simp [Lib.hasPrefix, List.isPrefixOf]
    have e2 : Lib.trimPrefix (58 :: t) [58] = t := by unfold Lib.trimPrefix; rw [if_pos e1]; rfl
    rw [e1, e2] at hcp
    have ht : t.length ≤ 1073741824 := by simp at hs; omega
    have hce := cutEnd t w ht
    have HPP := Lib.hid (show portPart (58 :: t) = (Url.portOf (t.takeWhile Url.noEnd)).map fun n => (n, t.dropWhile Url.noEnd) by simp [portPart])
    obtain ⟨d, hd⟩ : ∃ d, t.takeWhile Url.noEnd = d := ⟨_, rfl⟩
    obtain ⟨r, hr⟩ : ∃ r, t.dropWhile Url.noEnd = r := ⟨_, rfl⟩
    have hdl : d.length ≤ 1073741824 := by rw [← hd]; exact Nat.le_trans (Url.takeWhile_len _ _) ht
    rw [hd, hr] at hce HPP
    clear hd hr e1 e2
    cases hpo : Url.portOf d with
    | none =>
      have hpt : ∀ w1 : World, Calls Tryd.prog 74 #[.string (S d)] w1 fun e w' => e = .returned (.tuple #[.int .i64 0, .bool false]) ∧ w' = w1 := fun w1 => by
        have := portOf_to d w1 hdl
        rw [hpo] at this
        exact this
      have HR := Lib.hid (show portPart (58 :: t) = none by rw [HPP.out, hpo]; rfl)
      clear hpo HPP hdl ht hs
      go_enter Tryd.func40, Tryd.ntmps40
      go_wp2_with (first
        | (go_at_call 73; refine (hcp _).mono ?_; rintro e w1 ⟨rfl, rfl⟩)
        | (go_at_call 38; refine hce.mono ?_; rintro e w2 ⟨rfl, hb2⟩)
        | (go_at_call 74; refine (hpt _).mono ?_; rintro e w3 ⟨rfl, rfl⟩))
      go_ret3
      exact ⟨by rw [HR.out]; rfl, hb2⟩
    | some n =>
      have hpt : ∀ w1 : World, Calls Tryd.prog 74 #[.string (S d)] w1 fun e w' => e = .returned (.tuple #[.int .i64 (n : Int), .bool true]) ∧ w' = w1 := fun w1 => by
        have := portOf_to d w1 hdl
        rw [hpo] at this
        exact this
      have HR := Lib.hid (show portPart (58 :: t) = some (n, r) by rw [HPP.out, hpo]; rfl)
      clear hpo HPP hdl ht hs
      go_enter Tryd.func40, Tryd.ntmps40
      go_wp2_with (first
        | (go_at_call 73; refine (hcp _).mono ?_; rintro e w1 ⟨rfl, rfl⟩)
        | (go_at_call 38; refine hce.mono ?_; rintro e w2 ⟨rfl, hb2⟩)
        | (go_at_call 74; refine (hpt _).mono ?_; rintro e w3 ⟨rfl, rfl⟩))
      go_ret3
      exact ⟨by rw [HR.out]; rfl, hb2⟩
  · have e1 : Lib.hasPrefix l [58] = false := by
      match l, hp with
      | [], _ => rfl
      | c :: t, hp =>
        have : c ≠ 58 := fun e => hp ⟨t, by rw [e]⟩
        simp [Lib.hasPrefix, List.isPrefixOf]
        exact fun h => this h.symm
    have e2 : Lib.trimPrefix l [58] = l := by unfold Lib.trimPrefix; rw [e1]; rfl
    have HR := Lib.hid (show portPart l = some (0, l) by
      match l, hp with
      | [], _ => rfl
      | c :: t, hp =>
        have : c ≠ 58 := fun e => hp ⟨t, by rw [e]⟩
        simp [portPart, this])
    rw [e1, e2] at hcp
    clear e1 e2 hp
    go_enter Tryd.func40, Tryd.ntmps40
    go_wp2_with (go_at_call 73; refine (hcp _).mono ?_; rintro e w1 ⟨rfl, rfl⟩)
    go_ret3
    exact ⟨by rw [HR.out]; rfl, Below.refl _ _⟩
end Go.Proofs.YtbpeohadgplaaaaDoor
