/- What the document's own part of URLs answers, for any text of at most 2^30 bytes. -/
import Derived.Test.YtbpeohadgplaaaaDoorUrlC
namespace Go.Proofs.YtbpeohadgplaaaaDoor
set_option maxRecDepth 8000
open Go.RowKit

def partRes (o : Option (List UInt8)) : Ending := .returned (.tuple #[.string (S (o.getD [])), .bool o.isSome])

theorem part_bad {l : List UInt8} {k : Nat} (h : k < l.length) (hb : Url.okB2 l[k] = false) : Url.part l = none := by
  unfold Url.part
  rw [if_neg]
  intro ha
  have := List.all_eq_true.1 ha l[k] (List.getElem_mem h)
  rw [hb] at this
  cases this
theorem part_good {l : List UInt8} (h : ∀ (j : Nat) (hj : j < l.length), Url.okB2 l[j] = true) : Url.part l = Pct.norm l := by
  unfold Url.part
  rw [if_pos]
  rw [List.all_eq_true]
  intro x hx
  obtain ⟨j, hj, rfl⟩ := List.getElem_of_mem hx
  exact h j hj
theorem okB2_facts {c : UInt8} (h : Url.okB2 c = true) : 33 ≤ c.toNat ∧ c.toNat ≤ 126 ∧ ((c.toNat : Int) == 34) = false ∧ ((c.toNat : Int) == 60) = false ∧ ((c.toNat : Int) == 62) = false ∧ ((c.toNat : Int) == 35) = false ∧ ((c.toNat : Int) == 92) = false ∧ ((c.toNat : Int) == 94) = false ∧ ((c.toNat : Int) == 123) = false ∧ ((c.toNat : Int) == 124) = false ∧ ((c.toNat : Int) == 125) = false ∧ ((c.toNat : Int) == 96) = false := by
  have := Url.byte_all (P := fun c => !Url.okB2 c || decide (33 ≤ c.toNat ∧ c.toNat ≤ 126 ∧ ((c.toNat : Int) == 34) = false ∧ ((c.toNat : Int) == 60) = false ∧ ((c.toNat : Int) == 62) = false ∧ ((c.toNat : Int) == 35) = false ∧ ((c.toNat : Int) == 92) = false ∧ ((c.toNat : Int) == 94) = false ∧ ((c.toNat : Int) == 123) = false ∧ ((c.toNat : Int) == 124) = false ∧ ((c.toNat : Int) == 125) = false ∧ ((c.toNat : Int) == 96) = false)) (by decide +kernel) c
  rw [h] at this
  exact of_decide_eq_true (by simpa using this)

theorem okB2_no {c : UInt8} (h : Url.okB2 c = false) : c.toNat < 33 ∨ 126 < c.toNat ∨ c.toNat = 34 ∨ c.toNat = 60 ∨ c.toNat = 62 ∨ c.toNat = 35 ∨ c.toNat = 92 ∨ c.toNat = 94 ∨ c.toNat = 123 ∨ c.toNat = 124 ∨ c.toNat = 125 ∨ c.toNat = 96 := by
  have := Url.byte_all (P := fun c => Url.okB2 c || decide (c.toNat < 33 ∨ 126 < c.toNat ∨ c.toNat = 34 ∨ c.toNat = 60 ∨ c.toNat = 62 ∨ c.toNat = 35 ∨ c.toNat = 92 ∨ c.toNat = 94 ∨ c.toNat = 123 ∨ c.toNat = 124 ∨ c.toNat = 125 ∨ c.toNat = 96)) (by decide +kernel) c
  rw [h] at this
  exact of_decide_eq_true (by simpa using this)
theorem partRes_none {o : Option (List UInt8)} (h : o = none) : Ending.returned (.tuple #[.string ⟨#[]⟩, .bool false]) = partRes o := by rw [h]; rfl
theorem partRes_some {o : Option (List UInt8)} {x : List UInt8} (h : o = some x) : Ending.returned (.tuple #[.string (S x), .bool true]) = partRes o := by rw [h]; rfl
theorem refNormal_none (s : ByteArray) (w : World) (hs : s.size ≤ 1073741824) (h : Pct.norm s.data.toList = none) :
    Calls Tryd.prog 79 #[.string s] w fun e w' => e = .returned (.tuple #[.string ⟨#[]⟩, .int .i64 11]) ∧ Below w.heap.size w w' :=
  (refNormal_any s w hs).mono fun e w' ⟨he, hb⟩ => ⟨by rw [he, h]; rfl, hb⟩
theorem refNormal_some (s : ByteArray) (x : List UInt8) (w : World) (hs : s.size ≤ 1073741824) (h : Pct.norm s.data.toList = some x) :
    Calls Tryd.prog 79 #[.string s] w fun e w' => e = .returned (.tuple #[.string (S x), .int .i64 0]) ∧ Below w.heap.size w w' :=
  (refNormal_any s w hs).mono fun e w' ⟨he, hb⟩ => ⟨by rw [he, h]; rfl, hb⟩

set_option maxHeartbeats 800000 in
theorem refPart_any (s : ByteArray) (w : World) (hs : s.size ≤ 1073741824) :
    Calls Tryd.prog 48 #[.string s] w (Told w (partRes (Url.part s.data.toList))) := by
  have hsl : s.data.toList.length = s.size := by simp
  have HSL := Lib.hid hsl
  clear hsl
  go_enter Tryd.func48, Tryd.ntmps48
  go_wp2
  go_loop [4] (fun i => ∃ k : Nat, k ≤ s.size ∧ i = .int .i64 k ∧ (∀ (j : Nat) (hj : j < s.data.toList.length), j < k → Url.okB2 s.data.toList[j] = true)) (fun i => s.size - (intOf i).toNat)
  case atStart => exact ⟨0, Nat.zero_le _, rfl, fun j _ h => absurd h (by omega)⟩
  case round =>
    obtain ⟨k, hk, rfl, hn⟩ := hrel
    have HN := Lib.hid hn
    clear hn
    by_cases hlt : k < s.size
    · have HG := Lib.hid (show ∃ h : k < s.data.toList.length, s.data.toList[k] = s[k] from ⟨by simpa using hlt, rfl⟩)
      cases hok : Url.okB2 s[k] with
      | true =>
        obtain ⟨h1, h2, h3, h4, h5, h6, h7, h8, h9, h10, h11, h12⟩ := okB2_facts hok
        have HC := Lib.hid hok
        clear hok
        go_wp2
        go_round
        case rel =>
          refine ⟨k + 1, by omega, by go_num, fun j hj hjk => ?_⟩
          by_cases e : j = k
          · subst e
            obtain ⟨hg, hgc⟩ := HG.out
            rw [hgc]
            exact HC.out
          · exact HN.out j hj (by omega)
        case measure => simp [intOf]; omega
      | false =>
        have HC := Lib.hid hok
        clear hok
        go_wp2
        all_goals first
          | (go_ret2
             obtain ⟨hg, hgc⟩ := HG.out
             exact ⟨partRes_none (part_bad hg (by rw [hgc]; exact HC.out)), Below.refl _ _⟩)
          | (exfalso
             rename_i hh
             have h96 := beq_eq_false_iff_ne.1 hh.2
             have := okB2_no HC.out
             omega)
    · have HP := Lib.hid (part_good (l := s.data.toList) fun j hj => HN.out j hj (by rw [HSL.out] at hj; omega))
      cases hn : Pct.norm s.data.toList with
      | none =>
        have HT := Lib.hid hn
        clear hn
        go_wp2_with (go_at_call 79; refine (refNormal_none s _ (by omega) HT.out).mono ?_; rintro e w' ⟨rfl, hb⟩)
        go_ret2
        exact ⟨partRes_none (HP.out.trans HT.out), hb⟩
      | some x =>
        have HT := Lib.hid hn
        clear hn
        go_wp2_with (go_at_call 79; refine (refNormal_some s x _ (by omega) HT.out).mono ?_; rintro e w' ⟨rfl, hb⟩)
        go_ret2
        exact ⟨partRes_some (HP.out.trans HT.out), hb⟩
end Go.Proofs.YtbpeohadgplaaaaDoor
