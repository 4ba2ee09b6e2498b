/- What the document's own Percent and Encode answer, for any byte and any text of at most 2^30 bytes. -/
import Derived.Test.YtbpeohadgplaaaaDoorRefA
namespace Go.Proofs.YtbpeohadgplaaaaDoor
set_option maxRecDepth 8000
open Go.RowKit

theorem S_append (a b : List UInt8) : S a ++ S b = S (a ++ b) := by
  unfold S
  rw [ByteArray.mk_append_mk]

theorem run_add_S (w : World) (a b : List UInt8) (h : a.length + b.length ≤ 1099511627776) : (Op.stringOp .add (S a) (S b)).run Tryd.prog w = .ok (.string (S (a ++ b))) w := by
  have ha : (S a).size = a.length := rfl
  have hb : (S b).size = b.length := rfl
  rw [run_string_add_sum w _ _ (by omega), S_append]

theorem extract_one (s : ByteArray) (k : Nat) (h : k < s.size) : s.extract k (k + 1) = S [s[k]] := by
  have h1 : (s.extract k (k + 1)).data.toList = [s[k]] := by
    rw [ByteArray.data_extract, Array.toList_extract, List.extract_eq_take_drop, List.drop_eq_getElem_cons (by simpa using h)]
    simp
    rfl
  rw [← S_eq (s.extract k (k + 1)), h1]

theorem high_digs : ∀ i : Nat, i < 16 → highL.getD i 0 = Pct.dig i := by decide +kernel
theorem high_cut (w : World) (i : Nat) (h : i < 16) : (Instr.slice 9 (.string highS) (some (.int .u8 (i : Int))) (some (.int .u8 ((i : Int) + 1))) none).run Tryd.prog w = .ok (.string (S [Pct.dig i])) w := by
  have hsz : highS.size = 16 := rfl
  rw [run_slice_string w 9 highS .u8 .u8 i (i + 1) Tryd.underlying9 (by omega) (by omega) (by rw [hsz]; omega)]
  have h1 : ((i : Int)).toNat = i := by omega
  have h2 : ((i : Int) + 1).toNat = i + 1 := by omega
  have hi : i < highL.length := h
  rw [h1, h2, extract_one highS i (by rw [hsz]; exact h), ← high_digs i h, List.getD, List.getElem?_eq_getElem hi]
  rfl

set_option maxHeartbeats 400000 in
theorem refPercent_any (c : UInt8) (w : World) :
    Calls Tryd.prog 94 #[B c] w fun e w' => e = .returned (.string (S [37, Pct.dig (c.toNat / 16), Pct.dig (c.toNat % 16)])) ∧ ∃ n, w' = w.drewN n := by
  have hb8 := Pct.u8_lt c
  have e1 : (c.toNat : Int) / 16 = ((c.toNat / 16 : Nat) : Int) := by omega
  have e2 : (c.toNat : Int).tmod 16 = ((c.toNat % 16 : Nat) : Int) := by rw [Int.tmod_eq_emod_of_nonneg (by omega)]; omega
  have e2' : (c.toNat : Int) % 16 = ((c.toNat % 16 : Nat) : Int) := by omega
  have w1 : IntKind.u8.wrap ((c.toNat / 16 : Nat) : Int) = ((c.toNat / 16 : Nat) : Int) := IntWalk.u8_in _ (by omega)
  have w2 : IntKind.u8.wrap (((c.toNat / 16 : Nat) : Int) + 1) = ((c.toNat / 16 : Nat) : Int) + 1 := IntWalk.u8_in _ (by omega)
  have w3 : IntKind.u8.wrap ((c.toNat % 16 : Nat) : Int) = ((c.toNat % 16 : Nat) : Int) := IntWalk.u8_in _ (by omega)
  have w4 : IntKind.u8.wrap (((c.toNat % 16 : Nat) : Int) + 1) = ((c.toNat % 16 : Nat) : Int) + 1 := IntWalk.u8_in _ (by omega)
  have s1 := fun w' : World => high_cut w' (c.toNat / 16) (by omega)
  have s2 := fun w' : World => high_cut w' (c.toNat % 16) (by omega)
  have a1 := fun w' : World => run_add_S w' [37] [Pct.dig (c.toNat / 16)] (by simp)
  have a2 := fun w' : World => run_add_S w' [37, Pct.dig (c.toNat / 16)] [Pct.dig (c.toNat % 16)] (by simp)
  obtain ⟨x, hx⟩ : ∃ x, x = c.toNat / 16 := ⟨_, rfl⟩
  obtain ⟨y, hy⟩ : ∃ y, y = c.toNat % 16 := ⟨_, rfl⟩
  rw [← hx] at e1 w1 w2 s1 a1 a2
  rw [← hy] at e2 e2' w3 w4 s2 a2
  rw [← hx, ← hy]
  have HX := Lib.hid hx
  have HY := Lib.hid hy
  clear hx hy
  go_enter Tryd.func94, Tryd.ntmps94
  go_wp2
  rw [highS_lit]
  have hl37 : (⟨#[37]⟩ : ByteArray) = S [37] := rfl
  go_quiet (fail)
  go_wp2
  go_ret
  exact ⟨rfl, nq, rfl⟩

set_option maxHeartbeats 400000 in
theorem refEncode_any (s : ByteArray) (w : World) (hs : s.size ≤ 1073741824) :
    Calls Tryd.prog 70 #[.string s] w fun e w' => e = .returned (.string (S (Pct.enc s.data.toList))) ∧ ∃ n, w' = w.drewN n := by
  go_enter Tryd.func70, Tryd.ntmps70
  go_wp2
  go_loopw [3, 4] (fun v i wr => ∃ (k : Nat) (acc : List UInt8), k ≤ s.size ∧ i = .int .i64 k ∧ v = .string (S acc) ∧ acc = Pct.enc (s.data.toList.take k) ∧ ∃ n, wr = w.drewN n) (fun _ i _ => s.size - (intOf i).toNat)
  case atStart => exact ⟨0, [], Nat.zero_le _, rfl, rfl, rfl, 0, rfl⟩
  case round =>
    obtain ⟨k, acc, hk, rfl, rfl, hacc, n, rfl⟩ := hrel
    have hle : acc.length ≤ 3 * k := by
      rw [hacc]
      have := (Pct.enc_len (s.data.toList.take k)).2
      have h2 : (s.data.toList.take k).length ≤ k := List.length_take_le _ _
      omega
    have HACC := Lib.hid hacc
    clear hacc
    by_cases hlt : k < s.size
    · have HN := Lib.hid (show Pct.enc (s.data.toList.take (k + 1)) = acc ++ Pct.enc1 s[k] by rw [take_snoc s k hlt, Pct.enc_append, HACC.out]; simp [Pct.enc])
      cases hp : Pct.plainB s[k] with
      | true =>
        have HE := Lib.hid (show Pct.enc1 s[k] = [s[k]] by unfold Pct.enc1; rw [if_pos hp])
        have HP := Lib.hid hp
        clear hp
        have hx := extract_one s k hlt
        have a1 := fun w' : World => run_add_S w' acc [s[k]] (by simp; omega)
        go_wp2_with (go_at_call 93; refine (refPlain_any s[k] _).mono ?_; rintro e w' ⟨rfl, rfl⟩; rw [HP.out])
        go_roundw
        case rel => exact ⟨k + 1, acc ++ [s[k]], by omega, by go_num, rfl, by rw [HN.out, HE.out], n, rfl⟩
        case measure => simp [intOf]; omega
      | false =>
        have HE := Lib.hid (show Pct.enc1 s[k] = [37, Pct.dig (s[k].toNat / 16), Pct.dig (s[k].toNat % 16)] by unfold Pct.enc1; rw [if_neg (by simp [hp])])
        have HP := Lib.hid hp
        clear hp
        have a1 := fun w' : World => run_add_S w' acc [37, Pct.dig (s[k].toNat / 16), Pct.dig (s[k].toNat % 16)] (by simp; omega)
        go_wp2_with (first
          | (go_at_call 93; refine (refPlain_any s[k] _).mono ?_; rintro e w' ⟨rfl, rfl⟩; rw [HP.out])
          | (go_at_call 94; refine (refPercent_any s[k] _).mono ?_; rintro e w' ⟨rfl, n1, rfl⟩))
        go_roundw
        case rel => exact ⟨k + 1, acc ++ [37, Pct.dig (s[k].toNat / 16), Pct.dig (s[k].toNat % 16)], by omega, by go_num, rfl, by rw [HN.out, HE.out], _, rfl⟩
        case measure => simp [intOf]; omega
    · go_wp2
      go_ret
      refine ⟨?_, n, rfl⟩
      have := HACC.out
      rw [List.take_of_length_le (by simp; omega)] at this
      rw [← this]
      rfl
end Go.Proofs.YtbpeohadgplaaaaDoor
