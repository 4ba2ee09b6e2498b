/- What the document's own digit, told and Percent answer, for any byte and any text of at most 2^40 bytes. -/
import Derived.Test.YtbpeohadgplaaaaDoorWalkI
namespace Go.Proofs.YtbpeohadgplaaaaDoor
set_option maxRecDepth 8000
open Go.RowKit

def lowL : List UInt8 := [48, 49, 50, 51, 52, 53, 54, 55, 56, 57, 97, 98, 99, 100, 101, 102]
def highL : List UInt8 := [48, 49, 50, 51, 52, 53, 54, 55, 56, 57, 65, 66, 67, 68, 69, 70]
def lowS : ByteArray := S lowL
def highS : ByteArray := S highL
theorem lowS_lit : (⟨#[48, 49, 50, 51, 52, 53, 54, 55, 56, 57, 97, 98, 99, 100, 101, 102]⟩ : ByteArray) = lowS := rfl
theorem highS_lit : (⟨#[48, 49, 50, 51, 52, 53, 54, 55, 56, 57, 65, 66, 67, 68, 69, 70]⟩ : ByteArray) = highS := rfl
theorem lowS_size : lowS.size = 16 := rfl
theorem highS_size : highS.size = 16 := rfl

def lowN (k : Nat) : Nat := (lowL.getD k 0).toNat
def highN (k : Nat) : Nat := (highL.getD k 0).toNat
theorem hex_lows : ∀ k : Nat, k < 16 → Pct.hexN (lowN k) = some k ∧ Pct.hexN (highN k) = some k := by decide +kernel
theorem hex_nones : ∀ c : Nat, c < 256 → (∀ k : Nat, k < 16 → lowN k ≠ c ∧ highN k ≠ c) → Pct.hexN c = none := by decide +kernel
theorem lowS_at (k : Nat) (h : k < lowS.size) : lowS[k].toNat = lowN k := by
  have hk : k < lowL.length := h
  unfold lowN
  rw [List.getD, List.getElem?_eq_getElem hk]
  rfl
theorem highS_at (k : Nat) (h : k < highS.size) : highS[k].toNat = highN k := by
  have hk : k < highL.length := h
  unfold highN
  rw [List.getD, List.getElem?_eq_getElem hk]
  rfl

def digI (c : UInt8) : Int :=
  match Pct.hexN c.toNat with
  | some v => v
  | none => -1
theorem digI_some {c : UInt8} {v : Nat} (h : Pct.hexN c.toNat = some v) : digI c = v := by unfold digI; rw [h]
theorem digI_none {c : UInt8} (h : Pct.hexN c.toNat = none) : digI c = -1 := by unfold digI; rw [h]

theorem ret_int {k : IntKind} {a b : Int} (h : a = b) : Ending.returned (.int k a) = .returned (.int k b) := by rw [h]

set_option maxHeartbeats 400000 in
theorem refDigit_any (c : UInt8) (w : World) :
    Calls Tryd.prog 124 #[B c] w fun e w' => e = .returned (.int .i64 (digI c)) ∧ w = w' := by
  have hsl : lowS.size = 16 := rfl
  have hsh : highS.size = 16 := rfl
  have HSL := Lib.hid hsl
  have HSH := Lib.hid hsh
  clear hsl hsh
  go_enter Tryd.func124, Tryd.ntmps124
  go_wp2
  rw [lowS_lit, highS_lit]
  go_loop [5] (fun i => ∃ k : Nat, k ≤ 16 ∧ i = .int .i64 k ∧ ∀ j : Nat, j < k → lowN j ≠ c.toNat ∧ highN j ≠ c.toNat) (fun i => 16 - (intOf i).toNat)
  case atStart => exact ⟨0, Nat.zero_le _, rfl, fun j hj => absurd hj (by omega)⟩
  case round =>
    obtain ⟨k, hk, rfl, hn⟩ := hrel
    have HN := Lib.hid hn
    clear hn
    by_cases hlt : k < 16
    · have h1 : k < lowS.size := by rw [HSL.out]; exact hlt
      have h2 : k < highS.size := by rw [HSH.out]; exact hlt
      have e1 := lowS_at k h1
      have e2 := highS_at k h2
      have hx := hex_lows k hlt
      by_cases hl : lowN k = c.toNat
      · have hc : (((lowS[k]'h1).toNat : Int) == (c.toNat : Int)) = true := by rw [e1, hl]; simp
        have HD := Lib.hid (digI_some (c := c) (v := k) (by rw [← hl]; exact hx.1))
        clear e1 e2 hx hl
        go_wp2
        go_ret
        exact ⟨ret_int HD.out.symm, rfl⟩
      · have hc : (((lowS[k]'h1).toNat : Int) == (c.toNat : Int)) = false := by rw [e1]; simp; omega
        by_cases hh : highN k = c.toNat
        · have hc2 : (((highS[k]'h2).toNat : Int) == (c.toNat : Int)) = true := by rw [e2, hh]; simp
          have HD := Lib.hid (digI_some (c := c) (v := k) (by rw [← hh]; exact hx.2))
          clear e1 e2 hx hl hh
          go_wp2
          go_ret
          exact ⟨ret_int HD.out.symm, rfl⟩
        · have hc2 : (((highS[k]'h2).toNat : Int) == (c.toNat : Int)) = false := by rw [e2]; simp; omega
          have HL := Lib.hid hl
          have HH := Lib.hid hh
          clear e1 e2 hx hl hh
          go_wp2
          go_round
          case rel =>
            refine ⟨k + 1, by omega, by go_num, fun j hj => ?_⟩
            by_cases e : j = k
            · subst e; exact ⟨HL.out, HH.out⟩
            · exact HN.out j (by omega)
          case measure => simp [intOf]; omega
    · have HD := Lib.hid (digI_none (hex_nones c.toNat (Pct.u8_lt c) fun j hj => HN.out j (by omega)))
      go_wp2
      go_ret
      exact ⟨ret_int HD.out.symm, rfl⟩

def toldI (o : Option UInt8) : Int :=
  match o with
  | some u => u.toNat
  | none => -1

theorem told2_drop (s : ByteArray) (k : Nat) (h : k + 2 < s.size) : Pct.told2 (s.data.toList.drop (k + 1)) = Pct.told s[k + 1] s[k + 2] := by
  have hl : s.data.toList.length = s.size := by simp
  rw [List.drop_eq_getElem_cons (by omega), List.drop_eq_getElem_cons (by omega)]
  rfl
theorem told2_drop_short (s : ByteArray) (k : Nat) (h : s.size ≤ k + 2) : Pct.told2 (s.data.toList.drop (k + 1)) = none := by
  have hl : s.data.toList.length = s.size := by simp
  have : (s.data.toList.drop (k + 1)).length ≤ 1 := by rw [List.length_drop]; omega
  match hr : s.data.toList.drop (k + 1), this with
  | [], _ => rfl
  | [a], _ => rfl

theorem toldI_some (a b : UInt8) (x y : Nat) (h1 : Pct.hexN a.toNat = some x) (h2 : Pct.hexN b.toNat = some y) : toldI (Pct.told a b) = 16 * (x : Int) + y := by
  unfold Pct.told toldI
  rw [h1, h2]
  have := Pct.hexN_lt h1
  have := Pct.hexN_lt h2
  simp only [UInt8.toNat_ofNat']
  omega
theorem toldI_none1 (a b : UInt8) (h1 : Pct.hexN a.toNat = none) : toldI (Pct.told a b) = -1 := by unfold Pct.told toldI; rw [h1]
theorem toldI_none2 (a b : UInt8) (h1 : Pct.hexN b.toNat = none) : toldI (Pct.told a b) = -1 := by
  unfold Pct.told toldI
  cases Pct.hexN a.toNat <;> simp [h1]

set_option maxHeartbeats 400000 in
theorem refTold_any (s : ByteArray) (k : Nat) (w : World) (hk : k < s.size) (hs : s.size ≤ 1099511627776) :
    Calls Tryd.prog 105 #[.string s, .int .i64 k] w fun e w' => e = .returned (.int .i64 (toldI (Pct.told2 (s.data.toList.drop (k + 1))))) ∧ w = w' := by
  by_cases h2 : s.size ≤ k + 2
  · have HD := Lib.hid (told2_drop_short s k h2)
    go_enter Tryd.func105, Tryd.ntmps105
    go_wp2
    go_ret
    exact ⟨ret_int (by rw [HD.out]; rfl), rfl⟩
  · have hk2 : k + 2 < s.size := by omega
    have hk1 : k + 1 < s.size := by omega
    have HD := Lib.hid (told2_drop s k hk2)
    have hi2 : (k : Int) + 2 < (s.size : Int) := by omega
    have hi1 : (k : Int) + 1 < (s.size : Int) := by omega
    cases ha : Pct.hexN s[k + 1].toNat with
    | none =>
      have e1 := digI_none ha
      have HA := Lib.hid (toldI_none1 s[k + 1] s[k + 2] ha)
      have E1 := Lib.hid e1
      clear e1 ha
      go_enter Tryd.func105, Tryd.ntmps105
      go_wp2_with fail
      refine (refDigit_any s[k + 1] w).mono ?_
      rintro e w' ⟨rfl, rfl⟩
      rw [E1.out]
      go_wp2_with fail
      refine (refDigit_any s[k + 2] w).mono ?_
      rintro e w' ⟨rfl, rfl⟩
      go_wp2
      go_ret
      exact ⟨ret_int (by rw [HD.out, HA.out]), rfl⟩
    | some x =>
      have hx16 := Pct.hexN_lt ha
      have E1 := Lib.hid (digI_some ha)
      cases hb : Pct.hexN s[k + 2].toNat with
      | none =>
        have E2 := Lib.hid (digI_none hb)
        have HA := Lib.hid (toldI_none2 s[k + 1] s[k + 2] hb)
        clear ha hb
        go_enter Tryd.func105, Tryd.ntmps105
        go_wp2_with fail
        refine (refDigit_any s[k + 1] w).mono ?_
        rintro e w' ⟨rfl, rfl⟩
        rw [E1.out]
        go_wp2_with fail
        refine (refDigit_any s[k + 2] w).mono ?_
        rintro e w' ⟨rfl, rfl⟩
        rw [E2.out]
        go_wp2
        go_ret
        exact ⟨ret_int (by rw [HD.out, HA.out]), rfl⟩
      | some y =>
        have hy16 := Pct.hexN_lt hb
        have E2 := Lib.hid (digI_some hb)
        have HA := Lib.hid (toldI_some s[k + 1] s[k + 2] x y ha hb)
        clear ha hb
        go_enter Tryd.func105, Tryd.ntmps105
        go_wp2_with fail
        refine (refDigit_any s[k + 1] w).mono ?_
        rintro e w' ⟨rfl, rfl⟩
        rw [E1.out]
        go_wp2_with fail
        refine (refDigit_any s[k + 2] w).mono ?_
        rintro e w' ⟨rfl, rfl⟩
        rw [E2.out]
        go_wp2
        go_ret
        exact ⟨ret_int (by rw [HD.out, HA.out]), rfl⟩
end Go.Proofs.YtbpeohadgplaaaaDoor
