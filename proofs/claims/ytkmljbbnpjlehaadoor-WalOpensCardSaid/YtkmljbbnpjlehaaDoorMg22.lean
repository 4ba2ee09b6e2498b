/- What a log's disk keeps between two calls, whatever crashes came: what is found is the log. No condition. The small calls of package wal: where an area begins and how long it is, a number as bytes, a head's bytes. No condition but that the disk has two blocks. -/
import Derived.Test.YtkmljbbnpjlehaaDoorMg21
import Derived.Test.YtkmljbbnpjlehaaDoorMg20
namespace Go.Proofs.YtkmljbbnpjlehaaDoor
set_option maxRecDepth 8000
namespace Wl
open Dk (D blk lay layAll layCut cutAt pad)

def h8 (kept : Bytes) (i : Nat) : Bytes := (blk kept i).take 8
theorem h8_get {kept : Bytes} {n i q : Nat} (_hk : kept.length = 32 * n) : (h8 kept i)[q]? = if q < 8 then kept[32 * i + q]? else none := by
  unfold h8
  rw [List.getElem?_take]
  split
  · rw [Dk.blk_get, if_pos (by omega)]
  · rfl
theorem h8_len {kept : Bytes} {n i : Nat} (hk : kept.length = 32 * n) (hi : i < n) : (h8 kept i).length = 8 := by
  unfold h8
  rw [List.length_take, Dk.blk_len hk hi]
  rfl
/-- Of the other head: nothing, or the head ahead of this one, as far as it is not torn. -/
def OldOf (g : Nat) (O : Bytes) : Prop := O = zero8 ∨ ∃ a u, 1 ≤ g ∧ a ≤ 1 ∧ u < 8192 ∧ O = head (g - 1) a u
theorem OldOf.old {g : Nat} {O : Bytes} (h : OldOf g O) : Old O := by
  rcases h with rfl | ⟨a, u, _, _, _, rfl⟩
  · exact ⟨rfl, .inl rfl⟩
  · exact ⟨rfl, .inr (head_right _ _ _)⟩
/-- c: how much of a head's block a crash lays. -/
structure Inv (c n : Nat) (kept : Bytes) (l : L) : Prop where
  len : kept.length = 32 * n
  n4 : 4 ≤ n
  n512 : n ≤ 512
  gen : l.gen ≤ 262143
  a1 : l.area ≤ 1
  used : l.fr.length ≤ areaBytes n
  recs : (Fr.scan l.fr).2 = l.fr.length
  data : Lies n kept l.area l.fr
  own : if l.gen = 0 then l.area = 0 ∧ l.fr = [] ∧ h8 kept 0 = zero8 else h8 kept (l.gen % 2) = head l.gen l.area l.fr.length
  oth : ∃ O, OldOf l.gen O ∧ (h8 kept ((l.gen + 1) % 2)).drop c = O.drop c ∧ (right (h8 kept ((l.gen + 1) % 2)) → h8 kept ((l.gen + 1) % 2) = O)
theorem areaBytes_lt {n : Nat} (h : n ≤ 512) : areaBytes n < 8192 := by unfold areaBytes areaBlocks; omega
theorem Same.h8 {n : Nat} {l : L} {k0 k : Bytes} (h : Same n l k0 k) (hk : k0.length = 32 * n) {i : Nat} (hi : i < 2) : Wl.h8 k i = Wl.h8 k0 i := by
  apply List.ext_getElem?
  intro q
  rw [h8_get h.len, h8_get hk]
  split
  · exact h.heads _ (by omega)
  · rfl
theorem Inv.same {c n : Nat} {k0 k : Bytes} {l : L} (h : Inv c n k0 l) (hs : Same n l k0 k) : Inv c n k l where
  len := hs.len
  n4 := h.n4
  n512 := h.n512
  gen := h.gen
  a1 := h.a1
  used := h.used
  recs := h.recs
  data := hs.data
  own := by
    rw [hs.h8 h.len (by omega), hs.h8 h.len (Nat.mod_lt _ (by decide))]
    exact h.own
  oth := by
    rw [hs.h8 h.len (Nat.mod_lt _ (by decide))]
    exact h.oth
theorem Inv.start {c n : Nat} {kept : Bytes} {l : L} (h : Inv c n kept l) {d : D} (hn : d.n = n) (hk : d.kept = kept) (hs : d.st = []) : MidA n l kept d := ⟨hn, ⟨by rw [hk]; exact h.len, fun q _ => by rw [hk], by rw [hk]; exact h.data⟩, fun s hs' => by rw [hs] at hs'; cases hs'⟩
/-- A head that is laid, as far as it comes. -/
theorem h8_lay {k : Bytes} {n i c : Nat} (hk : k.length = 32 * n) (hi : i < n) {N : Bytes} (hN : N.length = 8) (hc : c ≤ 32) : Wl.h8 (lay k (i, pad N) c) i = N.take c ++ (Wl.h8 k i).drop c := by
  have hp : (pad N).length = 32 := Dk.pad_len _ (by omega)
  have hl := h8_len hk hi
  apply List.ext_getElem?
  intro q
  rw [h8_get (Dk.lay_ok c hk hi hp)]
  by_cases hq : q < 8
  · rw [if_pos hq, Dk.lay_get hk hi hp hc]
    by_cases hqc : q < c
    · rw [if_pos (by dsimp only; omega), List.getElem?_append_left (by rw [List.length_take]; omega), List.getElem?_take, if_pos hqc]
      show (pad N)[32 * i + q - 32 * i]? = _
      unfold Dk.pad
      rw [show 32 * i + q - 32 * i = q by omega, List.getElem?_append_left (by omega)]
    · rw [if_neg (by dsimp only; omega), List.getElem?_append_right (by rw [List.length_take]; omega), List.getElem?_drop, List.length_take, h8_get hk, if_pos (by omega)]
      congr 1
      omega
  · rw [if_neg hq, List.getElem?_eq_none (by rw [List.length_append, List.length_take, List.length_drop]; omega)]
theorem h8_lay_other {k : Bytes} {n i j c : Nat} (hk : k.length = 32 * n) (hi : i < n) {x : Bytes} (hx : x.length = 32) (hc : c ≤ 32) (hij : i ≠ j) : Wl.h8 (lay k (i, x) c) j = Wl.h8 k j := by
  unfold Wl.h8
  rw [Dk.blk_other hk hi hx hc hij]
theorem lies_lay {k : Bytes} {n i c a : Nat} (hk : k.length = 32 * n) (hi : i < 2) (h4 : 4 ≤ n) {x : Bytes} (hx : x.length = 32) (hc : c ≤ 32) {l : Bytes} (h : Lies n k a l) : Lies n (lay k (i, x) c) a l := fun q hq => by
  have := start_two (n := n) (a := a)
  rw [Dk.lay_get hk (by dsimp only; omega) hx hc, if_neg (by dsimp only; omega)]
  exact h q hq
theorem mod2 (g : Nat) : (g + 1) % 2 ≠ g % 2 := by omega
theorem mod22 (g : Nat) : (g + 1 + 1) % 2 = g % 2 := by omega
/-- The new log, where its head is laid whole. -/
theorem Inv.new {c n : Nat} {k0 k1 : Bytes} {l : L} (h : Inv c n k0 l) {area : Nat} {fr : Bytes} (hg : l.gen < 262143) (ha : area ≤ 1) (hr : fr.length ≤ areaBytes n) (hrec : (Fr.scan fr).2 = fr.length) (hn : New n l k0 area fr k1)
    {cc : Nat} (hcc : cc ≤ 32) (hw : Wl.h8 (lay k1 ((l.gen + 1) % 2, pad (head (l.gen + 1) area fr.length)) cc) ((l.gen + 1) % 2) = head (l.gen + 1) area fr.length) :
    Inv c n (lay k1 ((l.gen + 1) % 2, pad (head (l.gen + 1) area fr.length)) cc) ⟨l.gen + 1, area, fr⟩ := by
  have hlt : (l.gen + 1) % 2 < 2 := Nat.mod_lt _ (by decide)
  have hp : (pad (head (l.gen + 1) area fr.length)).length = 32 := Dk.pad_len _ (by rw [head_len]; omega)
  have h4 := h.n4
  refine ⟨Dk.lay_ok cc hn.1.len (by dsimp only; omega) hp, h4, h.n512, by show l.gen + 1 ≤ 262143; omega, ha, hr, hrec, lies_lay hn.1.len hlt h4 hp hcc hn.2, ?_, ?_⟩
  · rw [if_neg (by show l.gen + 1 ≠ 0; omega)]
    exact hw
  · show ∃ O, OldOf (l.gen + 1) O ∧ (Wl.h8 _ ((l.gen + 1 + 1) % 2)).drop c = O.drop c ∧ (right (Wl.h8 _ ((l.gen + 1 + 1) % 2)) → Wl.h8 _ ((l.gen + 1 + 1) % 2) = O)
    rw [mod22, h8_lay_other hn.1.len (by omega) hp hcc (mod2 _), hn.1.h8 h.len (Nat.mod_lt _ (by decide))]
    refine ⟨_, ?_, rfl, fun _ => rfl⟩
    have ho := h.own
    by_cases h0 : l.gen = 0
    · rw [if_pos h0] at ho
      rw [h0, ho.2.2]
      exact .inl rfl
    · rw [if_neg h0] at ho
      rw [ho]
      exact .inr ⟨l.area, l.fr.length, by omega, h.a1, by have := h.used; have := areaBytes_lt h.n512; omega, rfl⟩
/-- A head that is torn: the old log, or the new one. -/
theorem Inv.torn {c n : Nat} {k0 k1 : Bytes} {l : L} (h : Inv c n k0 l) (hc : c ≤ 32) {area : Nat} {fr : Bytes} (hg : l.gen < 262143) (ha : area ≤ 1) (hr : fr.length ≤ areaBytes n) (hrec : (Fr.scan fr).2 = fr.length) (hn : New n l k0 area fr k1) :
    Inv c n (lay k1 ((l.gen + 1) % 2, pad (head (l.gen + 1) area fr.length)) c) l ∨ Inv c n (lay k1 ((l.gen + 1) % 2, pad (head (l.gen + 1) area fr.length)) c) ⟨l.gen + 1, area, fr⟩ := by
  have hlt : (l.gen + 1) % 2 < 2 := Nat.mod_lt _ (by decide)
  have hp : (pad (head (l.gen + 1) area fr.length)).length = 32 := Dk.pad_len _ (by rw [head_len]; omega)
  have h4 := h.n4
  obtain ⟨O, hO, hd, hri⟩ := h.oth
  have hx := h8_lay hn.1.len (by omega) (head_len (l.gen + 1) area fr.length) hc (i := (l.gen + 1) % 2)
  rw [hn.1.h8 h.len hlt, hd] at hx
  have hmix : (Wl.h8 (lay k1 ((l.gen + 1) % 2, pad (head (l.gen + 1) area fr.length)) c) ((l.gen + 1) % 2)).drop c = O.drop c := by
    rw [hx, List.drop_append, List.drop_eq_nil_of_le (by rw [List.length_take]; omega), List.nil_append, List.length_take, head_len, List.drop_drop]
    by_cases h8 : c ≤ 8
    · congr 1; omega
    · rw [List.drop_eq_nil_of_le (by rw [hO.old.1]; omega), List.drop_eq_nil_of_le (by rw [hO.old.1]; omega)]
  by_cases hright : right (Wl.h8 (lay k1 ((l.gen + 1) % 2, pad (head (l.gen + 1) area fr.length)) c) ((l.gen + 1) % 2))
  · have ht := Wl.torn (N := head (l.gen + 1) area fr.length) c rfl (head_right _ _ _) hO.old (by rw [← hx]; exact hright)
    rcases ht with ht | ht
    · exact .inr (h.new hg ha hr hrec hn hc (hx.trans ht))
    · refine .inl ⟨Dk.lay_ok c hn.1.len (by dsimp only; omega) hp, h4, h.n512, h.gen, h.a1, h.used, h.recs, lies_lay hn.1.len hlt h4 hp hc hn.1.data, ?_, O, hO, hmix, fun _ => hx.trans ht⟩
      rw [h8_lay_other hn.1.len (by omega) hp hc (mod2 _), hn.1.h8 h.len (Nat.mod_lt _ (by decide))]
      have ho := h.own
      by_cases h0 : l.gen = 0
      · rw [if_pos h0] at ho ⊢
        refine ⟨ho.1, ho.2.1, ?_⟩
        rw [h8_lay_other hn.1.len (show (l.gen + 1) % 2 < n by omega) hp hc (show (l.gen + 1) % 2 ≠ 0 by omega), hn.1.h8 h.len (by decide)]
        exact ho.2.2
      · rw [if_neg h0] at ho ⊢
        exact ho
  · refine .inl ⟨Dk.lay_ok c hn.1.len (by dsimp only; omega) hp, h4, h.n512, h.gen, h.a1, h.used, h.recs, lies_lay hn.1.len hlt h4 hp hc hn.1.data, ?_, O, hO, hmix, fun hr' => absurd hr' hright⟩
    rw [h8_lay_other hn.1.len (by omega) hp hc (mod2 _), hn.1.h8 h.len (Nat.mod_lt _ (by decide))]
    have ho := h.own
    by_cases h0 : l.gen = 0
    · rw [if_pos h0] at ho ⊢
      refine ⟨ho.1, ho.2.1, ?_⟩
      rw [h8_lay_other hn.1.len (show (l.gen + 1) % 2 < n by omega) hp hc (show (l.gen + 1) % 2 ≠ 0 by omega), hn.1.h8 h.len (by decide)]
      exact ho.2.2
    · rw [if_neg h0] at ho ⊢
      exact ho
/-- What is found is the log. -/
theorem right_h8 {b : Bytes} (h : 8 ≤ b.length) : right b ↔ right (b.take 8) := by
  unfold right
  have e1 : num b = num (b.take 8) := by rw [num_take b (by omega), num_take (b.take 8) (by rw [List.length_take]; omega), List.take_take]; rfl
  have e2 : (b.drop 4).take 4 = ((b.take 8).drop 4).take 4 := by rw [List.drop_take, List.take_take]; rfl
  rw [e1, e2]
theorem hdOf_h8 {b : Bytes} (h : 8 ≤ b.length) : hdOf b = hdOf (b.take 8) := by
  unfold hdOf
  have e1 : num (b.drop 4) = num ((b.take 8).drop 4) := by
    rw [num_take (b.drop 4) (by rw [List.length_drop]; omega), num_take ((b.take 8).drop 4) (by rw [List.length_drop, List.length_take]; omega), List.drop_take, List.take_take]
    rfl
  rw [e1]
theorem readH_h8 {n i : Nat} {b : Bytes} (h : 8 ≤ b.length) : readH n i b = readH n i (b.take 8) := by
  unfold readH
  rw [hdOf_h8 h]
  have := right_h8 h
  by_cases hr : right b
  · have hr' := this.1 hr
    simp only [hr, hr', true_and]
  · have hr' : ¬ right (b.take 8) := fun x => hr (this.2 x)
    simp only [hr, hr', false_and, if_false]
theorem newest_two {n : Nat} {kept : Bytes} {p : Nat} (hp : p < 2) {h : Hd} (h1 : readH n p (blk kept p) = some h) (h2 : ∀ g, readH n (1 - p) (blk kept (1 - p)) = some g → g.gen < h.gen) : newest n kept = h := by
  unfold newest
  have : p = 0 ∨ p = 1 := by omega
  rcases this with rfl | rfl
  · rw [h1]
    cases hg : readH n 1 (blk kept 1) with
    | none => rfl
    | some g =>
      have := h2 g hg
      dsimp only
      rw [if_neg (by omega)]
  · rw [h1]
    cases hg : readH n 0 (blk kept 0) with
    | none => rfl
    | some g =>
      have := h2 g hg
      dsimp only
      rw [if_pos (by omega)]
theorem Inv.newest {c n : Nat} {kept : Bytes} {l : L} (h : Inv c n kept l) : Wl.newest n kept = ⟨l.gen, l.area, l.fr.length⟩ := by
  have h4 := h.n4
  have hb : ∀ i, i < 2 → 8 ≤ (blk kept i).length := fun i hi => by rw [Dk.blk_len h.len (by omega)]; omega
  have hu : l.fr.length < 8192 := by have := h.used; have := areaBytes_lt h.n512; omega
  obtain ⟨O, hO, _, hri⟩ := h.oth
  have ho := h.own
  have hother : ∀ g, readH n ((l.gen + 1) % 2) (blk kept ((l.gen + 1) % 2)) = some g → 1 ≤ l.gen ∧ g.gen = l.gen - 1 := by
    intro g hg
    rw [readH_h8 (hb _ (Nat.mod_lt _ (by decide)))] at hg
    have hg' : readH n ((l.gen + 1) % 2) (Wl.h8 kept ((l.gen + 1) % 2)) = some g := hg
    unfold readH at hg'
    split at hg'
    · rename_i hc
      have e := hri hc.1
      injection hg' with hg'
      rw [e] at hg' hc
      rcases hO with rfl | ⟨a, u, g1, ga, gu, rfl⟩
      · exact absurd hc.1 zero_not
      · rw [hdOf_head (by have := h.gen; omega) ga gu] at hg'
        subst hg'
        exact ⟨g1, rfl⟩
    · cases hg'
  by_cases h0 : l.gen = 0
  · rw [if_pos h0] at ho
    have e0 : readH n 0 (blk kept 0) = none := by
      rw [readH_h8 (hb 0 (by decide))]
      show readH n 0 (Wl.h8 kept 0) = none
      unfold readH
      rw [ho.2.2, if_neg (fun hc => zero_not hc.1)]
    have e1 : readH n 1 (blk kept 1) = none := by
      cases hg : readH n 1 (blk kept 1) with
      | none => rfl
      | some g =>
        have := hother g (by rw [h0]; exact hg)
        omega
    unfold Wl.newest
    rw [e0, e1, h0, ho.1, ho.2.1]
    rfl
  · rw [if_neg h0] at ho
    refine newest_two (p := l.gen % 2) (Nat.mod_lt _ (by decide)) ?_ ?_
    · rw [readH_h8 (hb _ (Nat.mod_lt _ (by decide)))]
      show readH n (l.gen % 2) (Wl.h8 kept (l.gen % 2)) = _
      unfold readH
      rw [ho, hdOf_head h.gen h.a1 hu, if_pos ⟨head_right _ _ _, rfl, h.used⟩]
    · intro g hg
      have e : 1 - l.gen % 2 = (l.gen + 1) % 2 := by omega
      rw [e] at hg
      have := hother g hg
      show g.gen < l.gen
      omega
theorem Inv.openK {c n : Nat} {kept : Bytes} {l : L} (h : Inv c n kept l) : Wl.openK n kept = .ok l := by
  have h4 := h.n4
  unfold Wl.openK
  rw [if_neg (by omega), h.newest]
  dsimp only
  rw [h.data.bytes, if_pos h.recs]
/-- A new disk. -/
theorem inv_new (c : Nat) {n : Nat} (h4 : 4 ≤ n) (h5 : n ≤ 512) : Inv c n (List.replicate (32 * n) 0) ⟨0, 0, []⟩ := by
  have hz : ∀ i, i < 2 → Wl.h8 (List.replicate (32 * n) 0) i = zero8 := by
    intro i hi
    apply List.ext_getElem?
    intro q
    rw [h8_get (n := n) (by simp)]
    unfold zero8
    rw [List.getElem?_replicate, List.getElem?_replicate]
    split
    · rw [if_pos (by omega)]
    · rfl
  refine ⟨by simp, h4, h5, by simp, by simp, by simp, rfl, fun q hq => absurd hq (by simp), ?_, zero8, .inl rfl, ?_, ?_⟩
  · rw [if_pos rfl]
    exact ⟨rfl, rfl, hz 0 (by decide)⟩
  · rw [hz _ (Nat.mod_lt _ (by decide))]
  · intro _
    exact hz _ (Nat.mod_lt _ (by decide))
end Wl
end Go.Proofs.YtkmljbbnpjlehaaDoor
namespace Go.Proofs.YtkmljbbnpjlehaaDoor
set_option maxRecDepth 8000
open Go.RowKit

abbrev SD0 (w : World) (P : Nat) (d : Dk.D) : Prop := SD 0 w P d
section
variable {w : World} {P : Nat} {d : Dk.D}
theorem areaBlocks_any (h : SD0 w P d) (h2 : 2 ≤ d.n) : Calls Tryd.prog 115 #[.pointer (some ⟨P, 0, none⟩)] w fun e w' => e = .returned (.int .i64 (Wl.areaBlocks d.n : Int)) ∧ w = w' := by
  have HL := Lib.hid (len_sd h)
  have hn := h.ok.n
  obtain ⟨n, hn0⟩ : ∃ n, n = d.n := ⟨_, rfl⟩
  rw [← hn0] at HL hn h2 ⊢
  have e1 : IntKind.i64.wrap ((n : Int) - 2) = (n : Int) - 2 := IntWalk.i64_in _ (by omega)
  go_enter Tryd.func115, Tryd.ntmps115
  go_wp2_with fail
  refine HL.out.mono ?_
  rintro _ _ ⟨rfl, rfl⟩
  go_wp2_with fail
  go_ret
  exact ⟨ret_int (by unfold Wl.areaBlocks; omega), rfl⟩
theorem areaBytes_any (h : SD0 w P d) (h2 : 2 ≤ d.n) : Calls Tryd.prog 90 #[.pointer (some ⟨P, 0, none⟩)] w fun e w' => e = .returned (.int .i64 (Wl.areaBytes d.n : Int)) ∧ w = w' := by
  have HL := Lib.hid (areaBlocks_any h h2)
  have hn := h.ok.n
  obtain ⟨q, hq⟩ : ∃ q, q = Wl.areaBlocks d.n := ⟨_, rfl⟩
  have hql : q ≤ 512 := by rw [hq]; unfold Wl.areaBlocks; omega
  unfold Wl.areaBytes
  rw [← hq] at HL ⊢
  go_enter Tryd.func90, Tryd.ntmps90
  go_wp2_with fail
  refine HL.out.mono ?_
  rintro _ _ ⟨rfl, rfl⟩
  go_wp2_with fail
  go_ret
  exact ⟨ret_int (by omega), rfl⟩
theorem areaStart_any (h : SD0 w P d) (h2 : 2 ≤ d.n) (a : Nat) (ha : a ≤ 1) : Calls Tryd.prog 92 #[.pointer (some ⟨P, 0, none⟩), .int .i64 (a : Int)] w fun e w' => e = .returned (.int .i64 (Wl.start d.n a : Int)) ∧ w = w' := by
  have HL := Lib.hid (areaBlocks_any h h2)
  have hn := h.ok.n
  obtain ⟨q, hq⟩ : ∃ q, q = Wl.areaBlocks d.n := ⟨_, rfl⟩
  have hql : q ≤ 512 := by rw [hq]; unfold Wl.areaBlocks; omega
  unfold Wl.start
  rw [← hq] at HL ⊢
  have : a = 0 ∨ a = 1 := by omega
  rcases this with rfl | rfl
  all_goals
    go_enter Tryd.func92, Tryd.ntmps92
    go_wp2_with fail
    refine HL.out.mono ?_
    rintro _ _ ⟨rfl, rfl⟩
    go_wp2_with fail
    go_ret
    exact ⟨ret_int (by omega), rfl⟩
end
theorem place_any (w : World) (g : Nat) (hg : g ≤ 1048576) : Calls Tryd.prog 111 #[.int .i64 (g : Int)] w fun e w' => e = .returned (.int .i64 ((g % 2 : Nat) : Int)) ∧ w = w' := by
  go_enter Tryd.func111, Tryd.ntmps111
  go_wp2_with fail
  go_ret
  exact ⟨ret_int (by omega), rfl⟩
def FourPost (w : World) (n : Nat) (e : Ending) (w' : World) : Prop := e = .returned (.slice (some ⟨w.heap.size, 0, none⟩) 4 4) ∧ w' = w.alloc (.cells ((Fr.be4 n).map B).toArray 5 (0, 0))
theorem four_any (w : World) (n : Nat) (hn : n < 4294967296) : Calls Tryd.prog 130 #[U n] w (FourPost w n) := by
  have hbytes4 : (.cells #[.int .u8 ((n : Int) / 16777216), .int .u8 ((n : Int) / 65536 % 256), .int .u8 ((n : Int) / 256 % 256), .int .u8 ((n : Int) % 256)] 5 (0, 0) : Obj) = .cells ((Fr.be4 n).map B).toArray 5 (0, 0) := by
    have h1 : ((n : Int) / 16777216) = ((UInt8.ofNat (n / 16777216)).toNat : Int) := by rw [UInt8.toNat_ofNat']; omega
    have h2 : ((n : Int) / 65536 % 256) = ((UInt8.ofNat (n / 65536)).toNat : Int) := by rw [UInt8.toNat_ofNat']; omega
    have h3 : ((n : Int) / 256 % 256) = ((UInt8.ofNat (n / 256)).toNat : Int) := by rw [UInt8.toNat_ofNat']; omega
    have h4 : ((n : Int) % 256) = ((UInt8.ofNat n).toNat : Int) := by rw [UInt8.toNat_ofNat']; omega
    rw [h1, h2, h3, h4]
    rfl
  have HBY4 := Lib.hid hbytes4
  clear hbytes4
  go_enter Tryd.func130, Tryd.ntmps130
  go_wp2_with fail
  rw [HBY4.out]
  go_ret
  exact ⟨rfl, rfl⟩
/-- What the first four bytes tell. -/
theorem number_any (w : World) (A : Option Addr) (c n : Nat) (l : List UInt8) (hn : l.length = n) (h4 : 4 ≤ n) (hb : BC w A l) :
    Calls Tryd.prog 116 #[.slice A n c] w fun e w' => e = .returned (U (Wl.num l)) ∧ ∃ n, w' = w.drewN n := by
  obtain ⟨b, off, rfl, hc⟩ := hb (by omega)
  obtain ⟨p, q, r, s, t, rfl⟩ : ∃ p q r s t, l = p :: q :: r :: s :: t := by
    match l, hn with
    | p :: q :: r :: s :: t, _ => exact ⟨p, q, r, s, t, rfl⟩
    | [], hn => simp at hn; omega
    | [_], hn => simp at hn; omega
    | [_, _], hn => simp at hn; omega
    | [_, _, _], hn => simp at hn; omega
  have c0 := hc 0 (by simp)
  have c1 := hc 1 (by simp)
  have c2 := hc 2 (by simp)
  have c3 := hc 3 (by simp)
  rw [Nat.add_zero] at c0
  simp only [List.getElem_cons_zero, List.getElem_cons_succ] at c0 c1 c2 c3
  have hp := Cr.u8_lt p
  have hq := Cr.u8_lt q
  have hr := Cr.u8_lt r
  have hs := Cr.u8_lt s
  have HN : Hid (Wl.num (p :: q :: r :: s :: t) = p.toNat * 16777216 + q.toNat * 65536 + r.toNat * 256 + s.toNat) := Lib.hid rfl
  have w1 := wrap_u8_u32 p
  have w2 := wrap_u8_u32 q
  have w3 := wrap_u8_u32 r
  have w4 := wrap_u8_u32 s
  rw [B] at c0 c1 c2 c3
  obtain ⟨x0, hx0⟩ : ∃ x, x = p.toNat := ⟨_, rfl⟩
  obtain ⟨x1, hx1⟩ : ∃ x, x = q.toNat := ⟨_, rfl⟩
  obtain ⟨x2, hx2⟩ : ∃ x, x = r.toNat := ⟨_, rfl⟩
  obtain ⟨x3, hx3⟩ : ∃ x, x = s.toNat := ⟨_, rfl⟩
  rw [← hx0] at c0 hp w1 HN
  rw [← hx1] at c1 hq w2 HN
  rw [← hx2] at c2 hr w3 HN
  rw [← hx3] at c3 hs w4 HN
  have or_add : ∀ (a b k : Nat), b < 2 ^ k → a * 2 ^ k ||| b = a * 2 ^ k + b := fun a b k h => by
    have := Nat.shiftLeft_add_eq_or_of_lt h a
    rw [Nat.shiftLeft_eq] at this
    exact this.symm
  have b1 : bits .or .u32 ((x0 : Int) * 16777216) ((x1 : Int) * 65536) = ((x0 * 16777216 + x1 * 65536 : Nat) : Int) := by
    rw [show ((x0 : Int) * 16777216) = ((x0 * 16777216 : Nat) : Int) by omega, show ((x1 : Int) * 65536) = ((x1 * 65536 : Nat) : Int) by omega, u32_or_nat _ _ (by omega) (by omega)]
    congr 1
    exact or_add x0 (x1 * 65536) 24 (by omega)
  obtain ⟨y1, hy1⟩ : ∃ y, y = x0 * 16777216 + x1 * 65536 := ⟨_, rfl⟩
  rw [← hy1] at b1
  have b2 : bits .or .u32 (y1 : Int) ((x2 : Int) * 256) = ((y1 + x2 * 256 : Nat) : Int) := by
    rw [show ((x2 : Int) * 256) = ((x2 * 256 : Nat) : Int) by omega, u32_or_nat _ _ (by omega) (by omega)]
    congr 1
    have := or_add (x0 * 256 + x1) (x2 * 256) 16 (by omega)
    rw [show (x0 * 256 + x1) * 2 ^ 16 = y1 by omega] at this
    exact this
  obtain ⟨y2, hy2⟩ : ∃ y, y = y1 + x2 * 256 := ⟨_, rfl⟩
  rw [← hy2] at b2
  have b3 : bits .or .u32 (y2 : Int) (x3 : Int) = ((y2 + x3 : Nat) : Int) := by
    rw [u32_or_nat _ _ (by omega) (by omega)]
    congr 1
    have := or_add (x0 * 65536 + x1 * 256 + x2) x3 8 (by omega)
    rw [show (x0 * 65536 + x1 * 256 + x2) * 2 ^ 8 = y2 by omega] at this
    exact this
  have HE : Hid (y2 + x3 = Wl.num (p :: q :: r :: s :: t)) := Lib.hid (by rw [HN.out]; omega)
  obtain ⟨y3, hy3⟩ : ∃ y, y = y2 + x3 := ⟨_, rfl⟩
  rw [← hy3] at b3 HE
  clear or_add hc HN hx0 hx1 hx2 hx3 hy1 hy2 hy3 hb
  obtain ⟨L, hL⟩ : ∃ L, L = p :: q :: r :: s :: t := ⟨_, rfl⟩
  rw [← hL] at HE hn ⊢
  clear hL hn
  have k0 : (0 : Int) < (n : Int) := by omega
  have k1 : (1 : Int) < (n : Int) := by omega
  have k2 : (2 : Int) < (n : Int) := by omega
  have k3 : (3 : Int) < (n : Int) := by omega
  go_enter Tryd.func116, Tryd.ntmps116
  rw [← HE.out]
  go_wp2
  go_region
  go_wp2
  go_ret
  exact ⟨rfl, 1, rfl⟩
end Go.Proofs.YtkmljbbnpjlehaaDoor
