/- xml.Unescape, for any text of at most 2^24 bytes, where its table reads as its text lays it. -/
import Derived.Test.YtpleaopefngafaaDoorXmC
namespace Go.Proofs.YtpleaopefngafaaDoor
set_option maxRecDepth 8000
open Go.RowKit

namespace Xm
def stU (l : Bytes) : Nat → Bytes
  | 0 => l
  | k + 1 => Lib.replaceAll (stU l k) (tabW (4 - k)) [tabP (4 - k)]
theorem stU_five (l : Bytes) : stU l 5 = chainU l := rfl
theorem rep_len {old new : Bytes} (h : (old == new) = false) (ho : old ≠ []) (hl : new.length ≤ old.length) : ∀ (n : Nat) (s : Bytes), s.length ≤ n → (Lib.replaceAll s old new).length ≤ s.length
  | _, [], _ => by rw [rep_nil h ho]; exact Nat.le_refl _
  | 0, c :: r, hn => by simp at hn
  | n + 1, c :: r, hn => by
    cases hp : old.isPrefixOf (c :: r) with
    | false =>
      rw [rep_skip h ho c r hp, List.length_cons, List.length_cons]
      have := rep_len h ho hl n r (by simpa using hn)
      omega
    | true =>
      obtain ⟨t, ht⟩ := List.isPrefixOf_iff_prefix.1 hp
      have hol : 1 ≤ old.length := by
        cases old with
        | nil => exact absurd rfl ho
        | cons a b => simp
      have hlen : old.length + t.length = (c :: r).length := by rw [← ht, List.length_append]
      rw [← ht, rep_here h ho t, List.length_append, List.length_append]
      have := rep_len h ho hl n t (by omega)
      omega
theorem tab_facts (k : Nat) (hk : k < 5) : (tabW k == [tabP k]) = false ∧ tabW k ≠ [] ∧ 1 ≤ (tabW k).length := by
  match k, hk with
  | 0, _ => decide
  | 1, _ => decide
  | 2, _ => decide
  | 3, _ => decide
  | 4, _ => decide
theorem stU_len (l : Bytes) : ∀ k, k ≤ 5 → (stU l k).length ≤ l.length
  | 0, _ => Nat.le_refl _
  | k + 1, hk => by
    have ih := stU_len l k (by omega)
    obtain ⟨h1, h2, h3⟩ := tab_facts (4 - k) (by omega)
    exact Nat.le_trans (rep_len h1 h2 (by simpa using h3) _ _ (Nat.le_refl _)) ih
end Xm

theorem esc_cells {w : World} (he : EnvX w) (m : Nat) (hm : m < 5) :
    w.cell? ⟨0, m * 2, none⟩ = some (.string (S [Xm.tabP m])) ∧ w.cell? ⟨0, m * 2 + 1, none⟩ = some (.string (S (Xm.tabW m))) := by
  have h := he.esc
  match m, hm with
  | 0, _ => exact ⟨h 0 _ rfl, h 1 _ rfl⟩
  | 1, _ => exact ⟨h 2 _ rfl, h 3 _ rfl⟩
  | 2, _ => exact ⟨h 4 _ rfl, h 5 _ rfl⟩
  | 3, _ => exact ⟨h 6 _ rfl, h 7 _ rfl⟩
  | 4, _ => exact ⟨h 8 _ rfl, h 9 _ rfl⟩

/-- What both packages answer of what a text was. -/
def toldUn : Option Xm.Bytes → Ending
  | some p => .returned (.tuple #[.string (S p), .int .i64 0])
  | none => .returned (.tuple #[.string (S []), .int .i64 10])

set_option maxHeartbeats 1600000 in
theorem unescape_any (l : List UInt8) (w : World) (he : EnvX w) (hl : l.length ≤ 16777216) :
    Calls Tryd.prog 37 #[.string (S l)] w fun e w' => e = toldUn (Xm.unescape l) ∧ Below w.heap.size w w' := by
  go_enter Tryd.func37, Tryd.ntmps37
  go_wp2
  go_loopw [4, 8] (fun v i wr => ∃ k : Nat, k ≤ 5 ∧ i = .int .i64 k ∧ v = .string (S (Xm.stU l k)) ∧ Below w.heap.size w wr) (fun _ i _ => 5 - (intOf i).toNat)
  case atStart => exact ⟨0, Nat.zero_le _, rfl, rfl, Below.refl _ _⟩
  case round =>
    obtain ⟨k, hk, rfl, rfl, hb⟩ := hrel
    have hlen := Xm.stU_len l k hk
    have j0 : (0 : Int) ≤ (k : Int) := by omega
    have hE := he.next hb
    have hbs := hb.size
    by_cases hlt : k < 5
    · have j1 : (k : Int) < 5 := by omega
      have HST := Lib.hid (show Xm.stU l (k + 1) = Lib.replaceAll (Xm.stU l k) (Xm.tabW (4 - k)) [Xm.tabP (4 - k)] from rfl)
      obtain ⟨m, hm⟩ : ∃ m, m = 4 - k := ⟨_, rfl⟩
      rw [← hm] at HST
      have hm5 : m < 5 := by omega
      have hmk : (4 : Int) - (k : Int) = (m : Int) := by omega
      obtain ⟨c0, c1⟩ := esc_cells hE m hm5
      have hW := Xm.tabW_len m hm5
      have hW1 := (Xm.tab_facts m hm5).2.2
      generalize Xm.stU l k = x at hlen HST
      generalize Xm.tabW m = u at hW hW1 HST c1
      generalize Xm.tabP m = c at HST c0
      clear hm
      go_wp2_with fail
      refine (replaceAll_to x u [c] _ (hE.next ((Below.refl _ _).alloc (Nat.le_refl _) _)) (by omega) hW1 (by simp)).mono ?_
      rintro e w1 ⟨rfl, hb1⟩
      have hb2 : Below w.heap.size w w1 := (hb.alloc hbs _).trans (hb1.mono (by simp; omega))
      go_wp2
      go_roundw
      case rel => exact ⟨k + 1, by omega, by go_num, by rw [HST.out], hb2⟩
      case measure => simp [intOf]; omega
    · have j1 : ¬ (k : Int) < 5 := by omega
      have h5 : k = 5 := by omega
      have H5 := Lib.hid (show Xm.stU l k = Xm.chainU l by rw [h5]; rfl)
      clear h5
      rw [H5.out] at hlen ⊢
      have HU := Lib.hid (show Xm.unescape l = if Xm.escape (Xm.chainU l) = l then some (Xm.chainU l) else none from rfl)
      have hcall := escape_any (Xm.chainU l) wr hE (by omega)
      generalize Xm.chainU l = p at hcall HU hlen ⊢
      generalize Xm.escape p = q at hcall HU
      clear H5
      by_cases hq : q = l
      · have hcmp : (!(S q).toList == (S l).toList) = false := by rw [S_list, S_list]; simp [hq]
        have HU2 := Lib.hid (show Xm.unescape l = some p by rw [HU.out, if_pos hq])
        clear hq HU
        go_wp2_with fail
        refine hcall.mono ?_
        rintro e w1 ⟨rfl, hb1⟩
        clear hcall
        have hb2 : Below w.heap.size w w1 := hb.trans (hb1.mono hbs)
        go_wp2
        go_ret2
        refine ⟨?_, hb2⟩
        rw [HU2.out]
        rfl
      · have hcmp : (!(S q).toList == (S l).toList) = true := by rw [S_list, S_list]; simp [hq]
        have HU2 := Lib.hid (show Xm.unescape l = none by rw [HU.out, if_neg hq])
        clear hq HU
        go_wp2_with fail
        refine hcall.mono ?_
        rintro e w1 ⟨rfl, hb1⟩
        clear hcall
        have hb2 : Below w.heap.size w w1 := hb.trans (hb1.mono hbs)
        go_wp2
        go_ret2
        refine ⟨?_, hb2⟩
        rw [HU2.out]
        rfl
end Go.Proofs.YtpleaopefngafaaDoor
