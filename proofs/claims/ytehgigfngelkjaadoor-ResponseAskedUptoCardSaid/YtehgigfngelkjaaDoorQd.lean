/- What package request's readFirst and readHeader answer, for any line of at most 2^30 bytes. -/
import Derived.Test.YtehgigfngelkjaaDoorQc
namespace Go.Proofs.YtehgigfngelkjaaDoor
set_option maxRecDepth 8000
open Go.RowKit
theorem Blk2.frozen {w : World} {g : Nat} {x y : ByteArray} (h : Blk2 w g x y) (i : Nat) : w.frozen? ⟨g, i, none⟩ = false := frozen_of_row w g i _ _ h
namespace Rq

/-- What the calls read of package-level variables. -/
structure EnvR (w : World) : Prop where
  big : ∃ m, w.cell? ⟨0, 0, none⟩ = some (.int .i64 m)
  lt : 0 < w.heap.size
theorem EnvR.below {base : Nat} {w w' : World} (h : EnvR w) (hb : Below base w w') (h5 : 0 < base) : EnvR w' := by
  have hbs := hb.size
  have hlt := h.lt
  refine ⟨?_, Nat.lt_of_lt_of_le hlt hbs⟩
  obtain ⟨m, hm⟩ := h.big
  exact ⟨m, (hb.cell (p := ⟨0, 0, none⟩) h5).trans hm⟩
theorem EnvR.next {w w' : World} (h : EnvR w) (hb : Below w.heap.size w w') : EnvR w' := h.below hb h.lt

/-! ### Splitting at spaces -/
theorem cutAt_parts (c : UInt8) : ∀ {l a b : List UInt8}, Pct.cutAt c l = (a, b, true) → l = a ++ c :: b ∧ ∀ x ∈ a, x ≠ c
  | [], a, b, h => by simp [Pct.cutAt] at h
  | x :: r, a, b, h => by
    by_cases hx : x = c
    · rw [hx, Pct.cutAt_hit] at h
      cases h
      exact ⟨by rw [hx]; rfl, fun y hy => by cases hy⟩
    · rw [Pct.cutAt_other c x r hx] at h
      have h1 := congrArg Prod.fst h
      have h2 := congrArg (fun p => p.2.1) h
      have h3 := congrArg (fun p => p.2.2) h
      simp only at h1 h2 h3
      have ih := cutAt_parts c (l := r) (a := (Pct.cutAt c r).1) (b := b) (by rw [← h2, ← h3])
      subst h1
      refine ⟨by rw [List.cons_append, ← ih.1], fun y hy => ?_⟩
      rcases List.mem_cons.1 hy with rfl | hy
      · exact hx
      · exact ih.2 y hy
theorem splitK_split (c : UInt8) : ∀ (k : Nat) (l : List UInt8), l.count c = k → Lib.splitK [c] 0 k l = Pct.split c l
  | 0, l, h => by
    rw [Pct.split_none c l (fun x hx e => by rw [← e] at h; exact absurd hx (List.count_eq_zero.1 h))]
    rfl
  | k + 1, l, h => by
    unfold Lib.splitK
    rw [Lib.index_one]
    rcases Pct.indexByte_cases l c with h1 | ⟨i, h1⟩
    · exfalso
      have h3 := miss_no c l h1
      rw [List.count_eq_zero.2 (fun hm => h3 c hm rfl)] at h
      omega
    · obtain ⟨h2, h3⟩ := Pct.cutAt_found l c i h1
      obtain ⟨h4, h5⟩ := cutAt_parts c h3
      rw [h1, if_neg (by simp), Pct.split_cut, h3]
      have e1 : (i : Int).toNat = i := by omega
      rw [e1]
      simp only [if_true, Nat.add_zero, List.length_singleton]
      rw [splitK_split c k (l.drop (i + 1)) (by
        rw [h4, List.count_append, List.count_cons_self, List.count_eq_zero.2 (fun hm => h5 c hm rfl)] at h
        omega)]
where
  miss_no (c : UInt8) : ∀ l : List UInt8, Lib.indexByte l c = -1 → ∀ x ∈ l, x ≠ c
  | [], _, x, hx => by cases hx
  | y :: r, h, x, hx => by
    unfold Lib.indexByte at h
    by_cases hy : y = c
    · rw [if_pos (by simpa using hy)] at h; omega
    · rw [if_neg (by simpa using hy)] at h
      have hge := Lib.indexByte_ge r c
      split at h
      · rename_i hr
        rcases List.mem_cons.1 hx with rfl | hx
        · exact hy
        · exact miss_no c r (by simpa using hr) x hx
      · omega

theorem split_bridge (l : List UInt8) : ((Lib.splitB ⟨#[32]⟩ 0 (Lib.countB (S l) ⟨#[32]⟩) (S l)).map Value.string).toArray = ((Pct.split 32 l).map fun p => Value.string (S p)).toArray ∧ Lib.countB (S l) ⟨#[32]⟩ + 1 = (Pct.split 32 l).length := by
  have h1 := Lib.splitB_data ⟨#[32]⟩ 0 (Lib.countB (S l) ⟨#[32]⟩) (S l)
  have h2 := Lib.splitB_all ⟨#[32]⟩ (by decide) 0 _ (S l) rfl
  have hc : Lib.countB (S l) ⟨#[32]⟩ = l.count 32 := Lib.count_one 32 l
  have h3 : Lib.splitK [32] 0 (Lib.countB (S l) ⟨#[32]⟩) l = Pct.split 32 l := splitK_split 32 _ l hc.symm
  have h4 : (Lib.splitB ⟨#[32]⟩ 0 (Lib.countB (S l) ⟨#[32]⟩) (S l)).map (·.data.toList) = Pct.split 32 l := h1.trans h3
  refine ⟨?_, ?_⟩
  · rw [← h4, List.map_map]
    rfl
  · rw [← h4, List.length_map, h2]

theorem split_any (l : List UInt8) (w : World) (he : EnvR w) (hs : l.length ≤ 1073741824) :
    Calls Tryd.prog 50 #[.string (S l), .string ⟨#[32]⟩] w fun e w' => e = .returned (.slice (some ⟨w.heap.size, 0, none⟩) (Pct.split 32 l).length (Pct.split 32 l).length) ∧ w' = w.alloc (.cells ((Pct.split 32 l).map fun p => Value.string (S p)).toArray 9) := by
  obtain ⟨m, hm⟩ := he.big
  have hz : (S l).size = l.length := rfl
  obtain ⟨e1, e2⟩ := split_bridge l
  refine (Tryd.strings_Split (S l) ⟨#[32]⟩ m w (by omega) hm (by decide)).mono fun e w' ⟨h1, h2⟩ => ⟨?_, ?_⟩
  · rw [h1, e2]
  · rw [h2, e1]

def firstRes (r : Except Nat (List UInt8 × List UInt8)) : Ending :=
  match r with
  | .ok p => .returned (.tuple #[.string (S p.1), .string (S p.2), .int .i64 0])
  | .error n => .returned (.tuple #[.string ⟨#[]⟩, .string ⟨#[]⟩, .int .i64 n])

theorem split_sum (c : UInt8) : ∀ l : List UInt8, ∀ p ∈ Pct.split c l, p.length ≤ l.length
  | [], p, hp => by simp [Pct.split] at hp; rw [hp]; simp
  | x :: r, p, hp => by
    by_cases hx : x = c
    · rw [hx, Pct.split_hit] at hp
      rcases List.mem_cons.1 hp with rfl | hp
      · simp
      · have := split_sum c r p hp; simp; omega
    · obtain ⟨q, ps, hq⟩ : ∃ q ps, Pct.split c r = q :: ps := by
        cases h : Pct.split c r with
        | nil => exact absurd h (Pct.split_ne c r)
        | cons q ps => exact ⟨q, ps, rfl⟩
      rw [Pct.split_other c x r q ps hx hq] at hp
      rcases List.mem_cons.1 hp with rfl | hp
      · have := split_sum c r q (by rw [hq]; simp)
        simp; omega
      · have := split_sum c r p (by rw [hq]; simp [hp])
        simp; omega

theorem first_3 {l m t v : List UInt8} (h : Pct.split 32 l = [m, t, v]) : Req.first l = if Req.isMethod m && Req.isTarget t && (v == Req.version) then (if Req.known m then .ok (m, t) else .error 16) else .error 17 := by
  unfold Req.first
  rw [h]
theorem first_not {l : List UInt8} (h : (Pct.split 32 l).length ≠ 3) : Req.first l = .error 17 := by
  unfold Req.first
  split
  · rename_i m t v e
    rw [e] at h
    exact absurd rfl h
  · rfl

set_option maxHeartbeats 800000 in
theorem readFirst_any (l : List UInt8) (w : World) (he : EnvR w) (hs : l.length ≤ 1073741824) :
    Calls Tryd.prog 43 #[.string (S l)] w (Told w (firstRes (Req.first l))) := by
  have hSp := split_any l w he hs
  have hsum := split_sum 32 l
  by_cases h3 : (Pct.split 32 l).length = 3
  · obtain ⟨m, t, v, hp⟩ : ∃ m t v, Pct.split 32 l = [m, t, v] := by
      match h : Pct.split 32 l with
      | [m, t, v] => exact ⟨m, t, v, rfl⟩
      | [] => rw [h] at h3; cases h3
      | [_] => rw [h] at h3; cases h3
      | [_, _] => rw [h] at h3; cases h3
      | _ :: _ :: _ :: _ :: _ => rw [h] at h3; simp at h3
    have H := Lib.hid (first_3 hp)
    rw [hp] at hSp hsum
    have b1 : m.length ≤ 1073741824 := Nat.le_trans (hsum m (by simp)) hs
    have b2 : t.length ≤ 1073741824 := Nat.le_trans (hsum t (by simp)) hs
    clear h3 hp hsum
    have hb0 := (Below.refl w.heap.size w).alloc (Nat.le_refl _) (.cells #[.string (S m), .string (S t), .string (S v)] 9)
    have hnew := heap_alloc_new w (.cells #[.string (S m), .string (S t), .string (S v)] 9)
    have c0 := cell_of_row _ w.heap.size 0 _ _ _ hnew
    have c1 := cell_of_row _ w.heap.size 1 _ _ _ hnew
    have c2 := cell_of_row _ w.heap.size 2 _ _ _ hnew
    clear hnew
    have hS := S_list
    have hM := fun w' => isMethod_any m w' b1
    have hT := fun w' => isTarget_any t w' b2
    have hK := fun w' => isKnown_any m w'
    generalize hW : w.alloc (.cells #[.string (S m), .string (S t), .string (S v)] 9) = w1 at hb0 c0 c1 c2
    have hSp' : Calls Tryd.prog 50 #[.string (S l), .string ⟨#[32]⟩] w fun e w' => e = .returned (.slice (some ⟨w.heap.size, 0, none⟩) 3 3) ∧ w' = w1 := by rw [← hW]; exact hSp
    clear hSp hW
    cases hm : Req.isMethod m with
    | false =>
      have HR := Lib.hid (show Req.first l = .error 17 by rw [H.out, hm]; rfl)
      rw [hm] at hM
      clear hm H
      go_enter Tryd.func43, Tryd.ntmps43
      go_wp2_with fail
      refine hSp'.mono ?_
      rintro e _ ⟨rfl, rfl⟩
      go_wp2_with (go_at_call 53; refine (hM _).mono ?_; rintro e w' ⟨rfl, rfl⟩)
      go_ret3
      exact ⟨by rw [HR.out]; rfl, hb0⟩
    | true =>
      rw [hm] at hM
      cases ht : Req.isTarget t with
      | false =>
        have HR := Lib.hid (show Req.first l = .error 17 by rw [H.out, hm, ht]; rfl)
        rw [ht] at hT
        clear hm ht H
        go_enter Tryd.func43, Tryd.ntmps43
        go_wp2_with fail
        refine hSp'.mono ?_
        rintro e _ ⟨rfl, rfl⟩
        go_wp2_with (first
          | (go_at_call 53; refine (hM _).mono ?_; rintro e w' ⟨rfl, rfl⟩)
          | (go_at_call 54; refine (hT _).mono ?_; rintro e w' ⟨rfl, rfl⟩))
        go_ret3
        exact ⟨by rw [HR.out]; rfl, hb0⟩
      | true =>
        rw [ht] at hT
        by_cases hv : v = Req.version
        · subst hv
          cases hk : Req.known m with
          | false =>
            have HR := Lib.hid (show Req.first l = .error 16 by rw [H.out, hm, ht, hk]; rfl)
            rw [hk] at hK
            clear hm ht hk H
            go_enter Tryd.func43, Tryd.ntmps43
            go_wp2_with fail
            refine hSp'.mono ?_
            rintro e _ ⟨rfl, rfl⟩
            have hv1 : (S Req.version).toList = [72, 84, 84, 80, 47, 49, 46, 49] := S_list _
            go_wp2_with (first
              | (go_at_call 53; refine (hM _).mono ?_; rintro e w' ⟨rfl, rfl⟩)
              | (go_at_call 54; refine (hT _).mono ?_; rintro e w' ⟨rfl, rfl⟩)
              | (go_at_call 55; refine (hK _).mono ?_; rintro e w' ⟨rfl, rfl⟩))
            go_ret3
            exact ⟨by rw [HR.out]; rfl, hb0⟩
          | true =>
            have HR := Lib.hid (show Req.first l = .ok (m, t) by rw [H.out, hm, ht, hk]; rfl)
            rw [hk] at hK
            clear hm ht hk H
            go_enter Tryd.func43, Tryd.ntmps43
            go_wp2_with fail
            refine hSp'.mono ?_
            rintro e _ ⟨rfl, rfl⟩
            have hv1 : (S Req.version).toList = [72, 84, 84, 80, 47, 49, 46, 49] := S_list _
            go_wp2_with (first
              | (go_at_call 53; refine (hM _).mono ?_; rintro e w' ⟨rfl, rfl⟩)
              | (go_at_call 54; refine (hT _).mono ?_; rintro e w' ⟨rfl, rfl⟩)
              | (go_at_call 55; refine (hK _).mono ?_; rintro e w' ⟨rfl, rfl⟩))
            go_quiet (fail)
            go_wp2
            go_ret3
            exact ⟨by rw [HR.out]; rfl, below_drewN hb0 _⟩
        · have HR := Lib.hid (show Req.first l = .error 17 by rw [H.out, hm, ht, beq_eq_false_iff_ne.2 hv]; rfl)
          have hv1 : (v != [72, 84, 84, 80, 47, 49, 46, 49]) = true := bne_iff_ne.2 hv
          have hv2 : (v == [72, 84, 84, 80, 47, 49, 46, 49]) = false := beq_eq_false_iff_ne.2 hv
          clear hm ht hv H
          go_enter Tryd.func43, Tryd.ntmps43
          go_wp2_with fail
          refine hSp'.mono ?_
          rintro e _ ⟨rfl, rfl⟩
          go_wp2_with (first
            | (go_at_call 53; refine (hM _).mono ?_; rintro e w' ⟨rfl, rfl⟩)
            | (go_at_call 54; refine (hT _).mono ?_; rintro e w' ⟨rfl, rfl⟩))
          go_ret3
          exact ⟨by rw [HR.out]; rfl, hb0⟩
  · have HR := Lib.hid (first_not h3)
    have hb0 := (Below.refl w.heap.size w).alloc (Nat.le_refl _) (.cells ((Pct.split 32 l).map fun p => Value.string (S p)).toArray 9)
    generalize hW : w.alloc (.cells ((Pct.split 32 l).map fun p => Value.string (S p)).toArray 9) = w1 at hb0 hSp
    obtain ⟨n, hn⟩ : ∃ n, n = (Pct.split 32 l).length := ⟨_, rfl⟩
    rw [← hn] at hSp h3
    have e3 : ((n : Int) != 3) = true := by simp; omega
    clear hn hW hsum
    go_enter Tryd.func43, Tryd.ntmps43
    go_wp2_with fail
    refine hSp.mono ?_
    rintro e _ ⟨rfl, rfl⟩
    go_wp2
    go_ret3
    exact ⟨by rw [HR.out]; rfl, hb0⟩

/-! ### A header's line -/
def hdrRes (o : Option Pct.PairL) : Ending :=
  match o with
  | some q => .returned (.tuple #[.agg #[.string (S q.1), .string (S q.2)], .bool true])
  | none => .returned (.tuple #[.agg #[.string ⟨#[]⟩, .string ⟨#[]⟩], .bool false])
theorem trim_len (l : List UInt8) : (Req.trim l).length ≤ l.length := by
  unfold Req.trim Lib.trimS Lib.trimLeftS Lib.trimRightS
  have h1 := (List.dropWhile_sublist (List.contains [32, 9] ·) (l := l.reverse)).length_le
  have h2 := (List.dropWhile_sublist (List.contains [32, 9] ·) (l := (l.reverse.dropWhile (List.contains [32, 9] ·)).reverse)).length_le
  simp only [List.length_reverse] at h1 h2
  omega
theorem header_def {l a b : List UInt8} {f : Bool} (h : Pct.cutAt 58 l = (a, b, f)) : Req.header l = if f && Req.token a && Req.isText (Req.trim b) then some (a, Req.trim b) else none := by
  unfold Req.header
  rw [h]

set_option maxHeartbeats 800000 in
theorem readHeader_any (l : List UInt8) (w : World) (hs : l.length ≤ 1073741824) :
    Calls Tryd.prog 56 #[.string (S l)] w (Told w (hdrRes (Req.header l))) := by
  obtain ⟨a, b, f, hcut⟩ : ∃ a b f, Pct.cutAt 58 l = (a, b, f) := ⟨_, _, _, rfl⟩
  have hlen := cutAt_len 58 l
  rw [hcut] at hlen
  have hla : a.length ≤ 1073741824 := by simp only at hlen; omega
  have hlb : b.length ≤ 1073741824 := by simp only at hlen; omega
  have H := Lib.hid (header_def hcut)
  have HC := Lib.hid hcut
  have htr := trim_len b
  have HTR := Lib.hid (fun w' => trim_two b w' hlb)
  obtain ⟨x, hx⟩ : ∃ x, x = Req.trim b := ⟨_, rfl⟩
  rw [← hx] at H htr HTR
  clear hlen hcut hx
  have hK := fun w' => isToken_any a w' hla
  have hI := fun w' => isText_any x w' (by omega)
  cases f with
  | false =>
    have HR := Lib.hid (show Req.header l = none by rw [H.out]; rfl)
    go_enter Tryd.func56, Tryd.ntmps56
    go_wp2_with fail
    refine (strCut_to l 58 a b false _ (by omega) HC.out).mono ?_
    rintro e w1 ⟨rfl, hb1⟩
    have hb1' : Below w.heap.size w w1 := ((Below.refl _ _).alloc (Nat.le_refl _) _).trans (hb1.mono (by simp))
    have B1 : Blk2 w1 w.heap.size ⟨#[]⟩ ⟨#[]⟩ := (Blk2.new w ⟨#[]⟩ ⟨#[]⟩).below hb1 (by simp)
    have hz1 : w.heap.size + 1 ≤ w1.heap.size := by have := hb1.size; simpa using this
    clear hb1
    go_wp2_with fail
    refine (HTR.out w1).mono ?_
    rintro e w2 ⟨rfl, hb2⟩
    have hb2' : Below w.heap.size w w2 := hb1'.trans (hb2.mono hb1'.size)
    have B2 : Blk2 w2 w.heap.size ⟨#[]⟩ ⟨#[]⟩ := B1.below hb2 (by omega)
    have c0 := B2.cell0
    have c1 := B2.cell1
    have f0 := B2.frozen 0
    have f1 := B2.frozen 1
    clear hb2 hb1' B1
    go_wp2
    exact bodyPost_ret (v := .tuple #[.agg #[.string ⟨#[]⟩, .string ⟨#[]⟩], .bool false]) (by simp [results, Tryd.results56, go_sem, c0, c1]) rfl ⟨by rw [HR.out]; rfl, (hb2'.setCell (Nat.le_refl _) _).setCell (Nat.le_refl _) _⟩
  | true =>
    cases hk : Req.token a with
    | false =>
      have HR := Lib.hid (show Req.header l = none by rw [H.out, hk]; rfl)
      rw [hk] at hK
      clear hk
      go_enter Tryd.func56, Tryd.ntmps56
      go_wp2_with fail
      refine (strCut_to l 58 a b true _ (by omega) HC.out).mono ?_
      rintro e w1 ⟨rfl, hb1⟩
      have hb1' : Below w.heap.size w w1 := ((Below.refl _ _).alloc (Nat.le_refl _) _).trans (hb1.mono (by simp))
      have B1 : Blk2 w1 w.heap.size ⟨#[]⟩ ⟨#[]⟩ := (Blk2.new w ⟨#[]⟩ ⟨#[]⟩).below hb1 (by simp)
      have hz1 : w.heap.size + 1 ≤ w1.heap.size := by have := hb1.size; simpa using this
      clear hb1
      go_wp2_with fail
      refine (HTR.out w1).mono ?_
      rintro e w2 ⟨rfl, hb2⟩
      have hb2' : Below w.heap.size w w2 := hb1'.trans (hb2.mono hb1'.size)
      have B2 : Blk2 w2 w.heap.size ⟨#[]⟩ ⟨#[]⟩ := B1.below hb2 (by omega)
      have c0 := B2.cell0
      have c1 := B2.cell1
      have f0 := B2.frozen 0
      have f1 := B2.frozen 1
      clear hb2 hb1' B1
      go_wp2_with (go_at_call 74; refine (hK _).mono ?_; rintro e w' ⟨rfl, rfl⟩)
      exact bodyPost_ret (v := .tuple #[.agg #[.string ⟨#[]⟩, .string ⟨#[]⟩], .bool false]) (by simp [results, Tryd.results56, go_sem, c0, c1]) rfl ⟨by rw [HR.out]; rfl, (hb2'.setCell (Nat.le_refl _) _).setCell (Nat.le_refl _) _⟩
    | true =>
      rw [hk] at hK
      cases hi : Req.isText x with
      | false =>
        have HR := Lib.hid (show Req.header l = none by rw [H.out, hk, hi]; rfl)
        rw [hi] at hI
        clear hk hi
        go_enter Tryd.func56, Tryd.ntmps56
        go_wp2_with fail
        refine (strCut_to l 58 a b true _ (by omega) HC.out).mono ?_
        rintro e w1 ⟨rfl, hb1⟩
        have hb1' : Below w.heap.size w w1 := ((Below.refl _ _).alloc (Nat.le_refl _) _).trans (hb1.mono (by simp))
        have B1 : Blk2 w1 w.heap.size ⟨#[]⟩ ⟨#[]⟩ := (Blk2.new w ⟨#[]⟩ ⟨#[]⟩).below hb1 (by simp)
        have hz1 : w.heap.size + 1 ≤ w1.heap.size := by have := hb1.size; simpa using this
        clear hb1
        go_wp2_with fail
        refine (HTR.out w1).mono ?_
        rintro e w2 ⟨rfl, hb2⟩
        have hb2' : Below w.heap.size w w2 := hb1'.trans (hb2.mono hb1'.size)
        have B2 : Blk2 w2 w.heap.size ⟨#[]⟩ ⟨#[]⟩ := B1.below hb2 (by omega)
        have hz2 := hb2'.size
        have hz3 : w.heap.size < w2.heap.size := by have := hb2.size; omega
        clear hb2 hb1' B1
        go_wp2_with (first
          | (go_at_call 74; refine (hK _).mono ?_; rintro e w' ⟨rfl, rfl⟩)
          | fail)
        refine (hI w2).mono ?_
        rintro e w3 ⟨rfl, hb3⟩
        have hb3' : Below w.heap.size w w3 := hb2'.trans (hb3.mono hz2)
        have B3 : Blk2 w3 w.heap.size ⟨#[]⟩ ⟨#[]⟩ := B2.below hb3 hz3
        have c0 := B3.cell0
        have c1 := B3.cell1
        have f0 := B3.frozen 0
        have f1 := B3.frozen 1
        clear hb3 B2 hb2'
        go_wp2
        exact bodyPost_ret (v := .tuple #[.agg #[.string ⟨#[]⟩, .string ⟨#[]⟩], .bool false]) (by simp [results, Tryd.results56, go_sem, c0, c1]) rfl ⟨by rw [HR.out]; rfl, (hb3'.setCell (Nat.le_refl _) _).setCell (Nat.le_refl _) _⟩
      | true =>
        have HR := Lib.hid (show Req.header l = some (a, x) by rw [H.out, hk, hi]; rfl)
        rw [hi] at hI
        clear hk hi
        go_enter Tryd.func56, Tryd.ntmps56
        go_wp2_with fail
        refine (strCut_to l 58 a b true _ (by omega) HC.out).mono ?_
        rintro e w1 ⟨rfl, hb1⟩
        have hb1' : Below w.heap.size w w1 := ((Below.refl _ _).alloc (Nat.le_refl _) _).trans (hb1.mono (by simp))
        have B1 : Blk2 w1 w.heap.size ⟨#[]⟩ ⟨#[]⟩ := (Blk2.new w ⟨#[]⟩ ⟨#[]⟩).below hb1 (by simp)
        have hz1 : w.heap.size + 1 ≤ w1.heap.size := by have := hb1.size; simpa using this
        clear hb1
        go_wp2_with fail
        refine (HTR.out w1).mono ?_
        rintro e w2 ⟨rfl, hb2⟩
        have hb2' : Below w.heap.size w w2 := hb1'.trans (hb2.mono hb1'.size)
        have B2 : Blk2 w2 w.heap.size ⟨#[]⟩ ⟨#[]⟩ := B1.below hb2 (by omega)
        have hz2 := hb2'.size
        have hz3 : w.heap.size < w2.heap.size := by have := hb2.size; omega
        clear hb2 hb1' B1
        go_wp2_with (first
          | (go_at_call 74; refine (hK _).mono ?_; rintro e w' ⟨rfl, rfl⟩)
          | fail)
        refine (hI w2).mono ?_
        rintro e w3 ⟨rfl, hb3⟩
        have hb3' : Below w.heap.size w w3 := hb2'.trans (hb3.mono hz2)
        have B3 : Blk2 w3 w.heap.size ⟨#[]⟩ ⟨#[]⟩ := B2.below hb3 hz3
        have c0 := B3.cell0
        have c1 := B3.cell1
        have f0 := B3.frozen 0
        have f1 := B3.frozen 1
        clear hb3 B2 hb2'
        go_wp2
        exact bodyPost_ret (v := .tuple #[.agg #[.string (S a), .string (S x)], .bool true]) (by simp [results, Tryd.results56, go_sem, c0, c1]) rfl ⟨by rw [HR.out]; rfl, (hb3'.setCell (Nat.le_refl _) _).setCell (Nat.le_refl _) _⟩
end Rq
end Go.Proofs.YtehgigfngelkjaaDoor
