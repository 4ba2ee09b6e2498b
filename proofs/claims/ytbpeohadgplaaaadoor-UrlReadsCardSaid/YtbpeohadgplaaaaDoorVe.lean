/- What the library's LastIndexByte answers of a row of bytes that the call owns, and what package url's Dots answers, for any text of at most 2^30 bytes. -/
import Derived.Test.YtbpeohadgplaaaaDoorVd
import Derived.Lib.AppendStr
namespace Go.Proofs.YtbpeohadgplaaaaDoor
set_option maxRecDepth 8000
open Go.RowKit

def LastAt (l : List UInt8) (c : UInt8) (r : Int) : Prop := (r = -1 ∧ ∀ j : Nat, l[j]? ≠ some c) ∨ ∃ i : Nat, r = (i : Int) ∧ l[i]? = some c ∧ ∀ j : Nat, i < j → l[j]? ≠ some c

set_option maxHeartbeats 400000 in
theorem lastIndex_in (base : Nat) (v : Value) (l : List UInt8) (c : UInt8) (w : World) (hrow : Row base w v l) (hl : l.length ≤ 1099511627776) :
    Calls Tryd.prog 104 #[v, B c] w fun e w' => (∃ r, e = .returned (.int .i64 r) ∧ LastAt l c r) ∧ w = w' := by
  have hcell : ∀ (a : Option Addr) (n cap : Nat), v = .slice a n cap → n = l.length ∧ ∀ j (hj : j < l.length), ∃ b off, a = some ⟨b, off, none⟩ ∧ w.cell? ⟨b, off + j, none⟩ = some (B l[j]) := by
    intro a n cap hv
    rcases hrow.2 with ⟨h1, h2⟩ | ⟨g, cap', cur, h1, _⟩
    · rw [h1] at hv
      cases hv
      exact ⟨h2.symm, fun j hj => by omega⟩
    · rw [h1] at hv
      cases hv
      refine ⟨rfl, fun j hj => ⟨g, 0, rfl, ?_⟩⟩
      have := hrow.cells (g := g) (by rw [h1]; rfl) j (B l[j]) (by simp [hj])
      have e : (⟨g, 0, none⟩ : Addr).add j = ⟨g, 0 + j, none⟩ := by simp [Addr.add]; omega
      rw [← e]
      exact this
  obtain ⟨a, n, cap, rfl⟩ : ∃ a n cap, v = .slice a n cap := by
    rcases hrow.2 with ⟨h1, _⟩ | ⟨g, cap', cur, h1, _⟩
    · exact ⟨_, _, _, h1⟩
    · exact ⟨_, _, _, h1⟩
  obtain ⟨rfl, hc⟩ := hcell a n cap rfl
  clear hcell
  have HC := Lib.hid hc
  clear hc
  go_enter Tryd.func104, Tryd.ntmps104
  go_wp2
  go_loop [5] (fun i => ∃ k : Nat, k ≤ l.length ∧ i = .int .i64 ((k : Int) - 1) ∧ ∀ j, k ≤ j → l[j]? ≠ some c) (fun i => ((intOf i) + 1).toNat)
  case atStart => exact ⟨l.length, Nat.le_refl _, rfl, fun j hj h => by rw [List.getElem?_eq_none hj] at h; cases h⟩
  case round =>
    obtain ⟨k, hk, rfl, hno⟩ := hrel
    have HN := Lib.hid hno
    clear hno
    by_cases hk0 : 0 < k
    · obtain ⟨m, rfl⟩ : ∃ m, k = m + 1 := ⟨k - 1, by omega⟩
      have em : ((m + 1 : Nat) : Int) - 1 = (m : Int) := by omega
      rw [em]
      obtain ⟨b, off, rfl, hcm⟩ := HC.out m (by omega)
      have i0 : (0 : Int) ≤ (m : Int) := by omega
      have i1 : (m : Int) < (l.length : Int) := by omega
      have hg : l[m]? = some l[m] := List.getElem?_eq_getElem (by omega)
      have HG := Lib.hid hg
      clear hg
      by_cases he : l[m] = c
      · have e1 : ((l[m].toNat : Int) == (c.toNat : Int)) = true := by rw [he]; simp
        have HE := Lib.hid he
        clear he
        go_wp2
        go_ret
        exact ⟨⟨_, rfl, Or.inr ⟨m, rfl, by rw [HG.out, HE.out], fun j hj => HN.out j (by omega)⟩⟩, rfl⟩
      · have e1 : ((l[m].toNat : Int) == (c.toNat : Int)) = false := by
          rw [beq_eq_false_iff_ne]
          intro h
          exact he (Pct.u8_eq (by omega))
        have HE := Lib.hid he
        clear he
        go_wp2
        go_round
        case rel =>
          refine ⟨m, by omega, by go_num, fun j hj => ?_⟩
          by_cases e : j = m
          · subst e
            rw [HG.out]
            intro h
            exact HE.out (Option.some.inj h)
          · exact HN.out j (by omega)
        case measure => simp [intOf]
    · obtain rfl : k = 0 := by omega
      go_wp2
      go_ret
      exact ⟨⟨_, rfl, Or.inl ⟨rfl, fun j => HN.out j (by omega)⟩⟩, rfl⟩

theorem lastIndex_any (base : Nat) (v : Value) (l : List UInt8) (c : UInt8) (w : World) (hrow : Row base w v l) (hl : l.length ≤ 1099511627776) :
    Calls Tryd.prog 78 #[v, B c] w fun e w' => (∃ r, e = .returned (.int .i64 r) ∧ LastAt l c r) ∧ w = w' := by
  go_enter Tryd.func78, Tryd.ntmps78
  go_wp2_with (go_at_call 104; refine (lastIndex_in base _ l c _ hrow hl).mono ?_; rintro e w' ⟨⟨r, rfl, hr⟩, rfl⟩)
  go_ret
  exact ⟨⟨r, rfl, hr⟩, rfl⟩

/-- Where the last segment of what is kept begins. -/
theorem lastAt_join {ks : List (List UInt8)} {r : Int} (hno : ∀ p ∈ ks, ∀ x ∈ p, x ≠ 47) (h : LastAt (Url.joinS ks) 47 r) : max 0 r = ((Url.joinS ks.dropLast).length : Int) := by
  by_cases hk : ks = []
  · subst hk
    rcases h with ⟨rfl, _⟩ | ⟨i, rfl, hi, _⟩
    · rfl
    · simp [Url.joinS] at hi
  · have e : ks = ks.dropLast ++ [ks.getLast hk] := (List.dropLast_concat_getLast hk).symm
    have hp := hno (ks.getLast hk) (List.getLast_mem hk)
    generalize ks.getLast hk = p at e hp
    generalize ks.dropLast = qs at e ⊢
    subst e
    have ej : Url.joinS (qs ++ [p]) = Url.joinS qs ++ 47 :: p := by rw [Url.joinS_append]; simp [Url.joinS]
    rw [ej] at h
    have hat : (Url.joinS qs ++ 47 :: p)[(Url.joinS qs).length]? = some 47 := by simp
    rcases h with ⟨rfl, h1⟩ | ⟨i, rfl, hi, hj⟩
    · exact absurd hat (h1 _)
    · have h2 : i ≤ (Url.joinS qs).length ∨ (Url.joinS qs).length < i := by omega
      rcases h2 with h2 | h2
      · by_cases e : i = (Url.joinS qs).length
        · rw [e]; omega
        · exact absurd hat (hj _ (by omega))
      · rw [List.getElem?_append_right (by omega)] at hi
        obtain ⟨d, hd⟩ : ∃ d, i - (Url.joinS qs).length = d + 1 := ⟨i - (Url.joinS qs).length - 1, by omega⟩
        rw [hd] at hi
        exact absurd rfl (hp 47 (List.mem_of_getElem? (by simpa using hi)))

theorem row_cut {base : Nat} {w : World} {l : List UInt8} {a : Option Addr} {n cap : Nat} (h : Row base w (.slice a n cap) l) (m : Nat) (hm : m ≤ l.length) (x : List UInt8) (hx : x = l.take m) : Row base w (.slice a m cap) x := by
  have hxl : x.length = m := by rw [hx, List.length_take]; omega
  obtain ⟨h1, h2⟩ := h
  refine ⟨by simp, ?_⟩
  rcases h2 with ⟨h3, h4⟩ | ⟨g, cap', cur, h3, h4, h5, h6, h7, h8, h9⟩
  · cases h3
    have : m = 0 := by omega
    subst this
    exact .inl ⟨rfl, hxl⟩
  · cases h3
    refine .inr ⟨g, cap, cur, by rw [hxl], h4, h5, by omega, h7, h8, ?_⟩
    rw [hxl, hx, List.map_take, ← h9, List.take_take, Nat.mul_one, Nat.mul_one, Nat.min_eq_left hm]
end Go.Proofs.YtbpeohadgplaaaaDoor
