/- What the closure of package cookie's Put answers, and slices.IndexFunc and slices.DeleteFunc with it, for any cookies, at most 2^20 of them. -/
import Derived.Test.YtpdilhnbbokipaaDoorCk
namespace Go.Proofs.YtpdilhnbbokipaaDoor
set_option maxRecDepth 8000
open Go.RowKit

theorem beq_S (a b : List UInt8) : ((S a).toList == (S b).toList) = (a == b) := by rw [S_list, S_list]

set_option maxHeartbeats 400000 in
theorem same_any (c old : Ck.C) (k : Nat) (W : World) (hB : Blk6 W k c) :
    Calls Tryd.prog 47 #[cV old, .pointer (some ⟨k, 0, none⟩)] W fun e w' => e = .returned (.bool (Ck.same c old)) ∧ Below W.heap.size W w' := by
  have d0 := hB.c0
  have d2 := hB.c2
  have hlt := hB.lt
  have hne : k ≠ W.heap.size := by omega
  have hb : Below W.heap.size W (W.alloc (.cells #[.string (S old.name), .string (S old.val), .string (S old.path), .int .i64 old.age, .bool old.sec, .bool old.http] 32)) := (Below.refl _ _).alloc (Nat.le_refl _) _
  have HB := Lib.hid hb
  clear hb hB
  have h1 := beq_S old.name c.name
  have h2 := beq_S old.path c.path
  cases hn : (old.name == c.name) with
  | true =>
    have HS := Lib.hid (show Ck.same c old = (old.path == c.path) by unfold Ck.same; rw [hn]; rfl)
    rw [hn] at h1
    clear hn
    cases hp : (old.path == c.path) with
    | true =>
      rw [hp] at HS h2
      clear hp
      go_enter Tryd.func47, Tryd.ntmps47
      go_wp2
      go_ret
      exact ⟨ret_bool HS.out.symm, HB.out⟩
    | false =>
      rw [hp] at HS h2
      clear hp
      go_enter Tryd.func47, Tryd.ntmps47
      go_wp2
      go_ret
      exact ⟨ret_bool HS.out.symm, HB.out⟩
  | false =>
    have HS := Lib.hid (show Ck.same c old = false by unfold Ck.same; rw [hn]; rfl)
    rw [hn] at h1
    clear hn
    go_enter Tryd.func47, Tryd.ntmps47
    go_wp2
    go_ret
    exact ⟨ret_bool HS.out.symm, HB.out⟩

abbrev predV (k : Nat) : Value := .func (.func 47) #[] #[.pointer (some ⟨k, 0, none⟩)]
def Found (c : Ck.C) (l : List Ck.C) (r : Int) : Prop :=
  (r = -1 ∧ ∀ j (hj : j < l.length), Ck.same c l[j] = false) ∨ ∃ (k : Nat) (hk : k < l.length), r = (k : Int) ∧ Ck.same c l[k] = true ∧ ∀ j (hj : j < l.length), j < k → Ck.same c l[j] = false

set_option maxHeartbeats 800000 in
theorem indexFunc_any (c : Ck.C) (g : Nat) (A : Option Addr) (cap : Nat) (l : List Ck.C) (w : World) (hB : Blk6 w g c) (hc : CCells w w.heap.size A l) (hl : l.length ≤ 1048576) :
    Calls Tryd.prog 64 #[.slice A l.length cap, predV g] w fun e w' => ∃ r, e = .returned (.int .i64 r) ∧ Found c l r ∧ Below w.heap.size w w' := by
  have HBL := Lib.hid hB
  have HCC := Lib.hid hc
  have hglt := hB.lt
  clear hB hc
  go_enter Tryd.func64, Tryd.ntmps64
  go_wp2
  go_loopw [8] (fun i wr => ∃ k : Nat, k ≤ l.length ∧ i = .int .i64 k ∧ (∀ j (hj : j < l.length), j < k → Ck.same c l[j] = false) ∧ Below w.heap.size w wr) (fun i _ => l.length - (intOf i).toNat)
  case atStart => exact ⟨0, Nat.zero_le _, rfl, fun j _ hj => absurd hj (by omega), Below.refl _ _⟩
  case round =>
    obtain ⟨k, hk, rfl, hall, hb⟩ := hrel
    have HALL := Lib.hid hall
    clear hall
    have hbs := hb.size
    by_cases hlt : k < l.length
    · obtain ⟨b, off, rfl, hbb, h6⟩ := HCC.out.at6 k hlt
      have hS := same_any c l[k] g wr (HBL.out.below hb hglt)
      have hat : At6 wr b (off + k * 6) l[k] := fun i u hu => (hb.cell (p := ⟨b, off + k * 6 + i, none⟩) hbb).trans (h6 i u hu)
      have HSM := Lib.hid (rfl : Ck.same c l[k] = Ck.same c l[k])
      clear h6
      obtain ⟨x, hx⟩ : ∃ x, x = l[k] := ⟨_, rfl⟩
      rw [← hx] at hS hat
      have HX := Lib.hid hx
      clear hx HSM
      have d0 := hat.c0
      have d1 := hat.c1
      have d2 := hat.c2
      have d3 := hat.c3
      have d4 := hat.c4
      have d5 := hat.c5
      clear hat
      have n0 : (0 : Int) ≤ (k : Int) := by omega
      have n1 : (k : Int) < (l.length : Int) := by omega
      cases hs : Ck.same c x with
      | true =>
        rw [hs] at hS
        have HF := Lib.hid (show Found c l (k : Int) from .inr ⟨k, hlt, rfl, by rw [← HX.out]; exact hs, HALL.out⟩)
        clear hs
        go_wp2_with (go_at_call 47; refine hS.mono ?_; rintro e w1 ⟨rfl, hb1⟩)
        go_ret
        exact ⟨_, rfl, HF.out, hb.trans (hb1.mono hbs)⟩
      | false =>
        rw [hs] at hS
        have HF := Lib.hid (show Ck.same c l[k] = false by rw [← HX.out]; exact hs)
        clear hs
        go_wp2_with (go_at_call 47; refine hS.mono ?_; rintro e w1 ⟨rfl, hb1⟩)
        go_roundw
        case rel =>
          refine ⟨k + 1, by omega, by go_num, fun j hj hjk => ?_, hb.trans (hb1.mono hbs)⟩
          by_cases e : j = k
          · subst e; exact HF.out
          · exact HALL.out j hj (by omega)
        case measure => simp [intOf]; omega
    · have HF := Lib.hid (show Found c l (-1) from .inl ⟨rfl, fun j hj => HALL.out j hj (by omega)⟩)
      go_wp2
      go_ret
      exact ⟨_, rfl, HF.out, hb⟩
end Go.Proofs.YtpdilhnbbokipaaDoor
