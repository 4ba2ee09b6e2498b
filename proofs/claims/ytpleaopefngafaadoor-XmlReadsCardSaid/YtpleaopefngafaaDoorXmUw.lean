/- What the document's Unescape answers, for any text of at most 2^24 bytes. -/
import Derived.Test.YtpleaopefngafaaDoorXmUn
import Derived.Test.YtpleaopefngafaaDoorXmAy
import Derived.Lib.SlBytesConst
namespace Go.Proofs.YtpleaopefngafaaDoor
set_option maxRecDepth 8000
open Go.RowKit

def allCells : Array Value := #[.int .u8 38, .int .u8 60, .int .u8 62, .int .u8 34, .int .u8 39]
theorem ext_S (s : ByteArray) (i n : Nat) : s.extract i (i + n) = S ((s.data.toList.drop i).take n) := by
  apply ByteArray.ext
  rw [ByteArray.data_extract]
  apply Array.ext'
  rw [Array.toList_extract, List.extract_eq_take_drop]
  simp [S]
/-- 'string([]byte{u})'. -/
theorem run_one (w : World) (u : UInt8) : (convert 45 9 (.slice (some ⟨w.heap.size, 0, none⟩) 1 1)).run Tryd.prog (w.alloc (.cells #[B u] 5)) = .ok (.string (S [u])) (w.alloc (.cells #[B u] 5)) :=
  run_convert_bytes_back (w.alloc (.cells #[B u] 5)) 45 9 5 ⟨w.heap.size, 0, none⟩ 1 [u] Tryd.underlying45 Tryd.underlying5 Tryd.underlying9
    (fun j hj => by
      have h0 : j = 0 := by simp at hj; exact hj
      subst h0
      exact cell_of_row _ w.heap.size 0 _ _ _ (heap_alloc_new w (.cells #[B u] 5)))
set_option maxHeartbeats 1600000 in
theorem refUnescape_any (l : List UInt8) (w : World) (hl : l.length ≤ 16777216) :
    Calls Tryd.prog 26 #[.string (S l)] w fun e w' => e = toldUn (Xm.unescape l) ∧ Below w.heap.size w w' := by
  obtain ⟨s, hv⟩ : ∃ s, s = S l := ⟨_, rfl⟩
  have HSL := Lib.hid (show s.data.toList = l by rw [hv]; exact S_toList l)
  have hsz : s.size = l.length := by rw [hv]; rfl
  rw [← hv]
  clear hv
  go_enter Tryd.func26, Tryd.ntmps26
  go_wp2
  obtain ⟨w1, hw1⟩ : ∃ w1, w1 = w.alloc (.cells #[.int .u8 38, .int .u8 60, .int .u8 62, .int .u8 34, .int .u8 39] 5) := ⟨_, rfl⟩
  obtain ⟨gA, hgA⟩ : ∃ gA, gA = w.heap.size := ⟨_, rfl⟩
  rw [← hw1, ← hgA]
  have hblk : w1.heap[gA]? = some (.cells #[.int .u8 38, .int .u8 60, .int .u8 62, .int .u8 34, .int .u8 39] 5 (0, 0)) := by rw [hw1, hgA]; exact heap_alloc_new w _
  have hb1 : Below w.heap.size w w1 := by rw [hw1]; exact (Below.refl _ _).alloc (Nat.le_refl _) _
  have hgw : w.heap.size ≤ gA := by omega
  have hgl : gA + 1 ≤ w1.heap.size := by have := blk_lt hblk; omega
  clear hw1 hgA
  go_loopw [4, 6] (fun v i wr => ∃ (k : Nat) (acc : List UInt8), k ≤ l.length ∧ i = .int .i64 k ∧ v = .string (S acc) ∧ l = Xm.escape acc ++ l.drop k ∧ Below (gA + 1) w1 wr) (fun _ i _ => l.length - (intOf i).toNat)
  case atStart => exact ⟨0, [], Nat.zero_le _, rfl, rfl, rfl, Below.refl _ _⟩
  case round =>
    obtain ⟨k, acc, hk, rfl, rfl, hacc, hbel⟩ := hrel
    have hbw := hb1.trans (hbel.mono (by omega : w.heap.size ≤ gA + 1))
    have hal : acc.length ≤ l.length := by
      have h1 := escape_le acc
      have h2 := congrArg List.length hacc
      rw [List.length_append] at h2
      omega
    by_cases hlt : k < l.length
    · have hks : k < s.size := by omega
      have HC := Lib.hid (show l[k] = s[k] by
        have h := HSL.out
        subst h
        rfl)
      have hd : l.drop k = s[k] :: l.drop (k + 1) := by rw [List.drop_eq_getElem_cons hlt, HC.out]
      rw [hd] at hacc
      have j0 : (0 : Int) ≤ (k : Int) := by omega
      have j1 : (k : Int) < (l.length : Int) := by omega
      have HACC := Lib.hid hacc
      clear hacc hd
      by_cases h60 : s[k] = 60
      · have k60 : ((s[k].toNat : Int) == 60) = true := by rw [h60]; rfl
        have HN : Hid (Xm.unescape l = none) := Lib.hid (by rw [HACC.out, h60]; exact Xm.un_bad (by decide) (by decide))
        clear h60
        go_wp2_with fail
        go_ret2
        exact ⟨by rw [HN.out]; rfl, hbw⟩
      have k60 := u8_ne (n := 60) 60 rfl h60
      by_cases h62 : s[k] = 62
      · have k62 : ((s[k].toNat : Int) == 62) = true := by rw [h62]; rfl
        have HN : Hid (Xm.unescape l = none) := Lib.hid (by rw [HACC.out, h62]; exact Xm.un_bad (by decide) (by decide))
        clear h62
        go_wp2_with fail
        go_ret2
        exact ⟨by rw [HN.out]; rfl, hbw⟩
      have k62 := u8_ne (n := 62) 62 rfl h62
      by_cases h34 : s[k] = 34
      · have k34 : ((s[k].toNat : Int) == 34) = true := by rw [h34]; rfl
        have HN : Hid (Xm.unescape l = none) := Lib.hid (by rw [HACC.out, h34]; exact Xm.un_bad (by decide) (by decide))
        clear h34
        go_wp2_with fail
        go_ret2
        exact ⟨by rw [HN.out]; rfl, hbw⟩
      have k34 := u8_ne (n := 34) 34 rfl h34
      by_cases h39 : s[k] = 39
      · have k39 : ((s[k].toNat : Int) == 39) = true := by rw [h39]; rfl
        have HN : Hid (Xm.unescape l = none) := Lib.hid (by rw [HACC.out, h39]; exact Xm.un_bad (by decide) (by decide))
        clear h39
        go_wp2_with fail
        go_ret2
        exact ⟨by rw [HN.out]; rfl, hbw⟩
      have k39 := u8_ne (n := 39) 39 rfl h39
      by_cases h38 : s[k] = 38
      · have k38 : ((s[k].toNat : Int) == 38) = true := by rw [h38]; rfl
        have k38' : ((s[k].toNat : Int) != 38) = false := by unfold bne; rw [k38]; rfl
        have HA38 : Hid (l.drop k = 38 :: l.drop (k + 1)) := Lib.hid (by rw [List.drop_eq_getElem_cons hlt, HC.out, h38])
        rw [h38] at HACC
        clear h60 h62 h34 h39 h38
        go_wp2_with fail
        go_outline
        go_loopw [4, 6, 8, 9] (fun v i fv jv w2 => ∃ (q j : Nat) (a : List UInt8) (f : Bool), v = .string (S a) ∧ i = .int .i64 q ∧ fv = .bool f ∧ jv = .int .i64 j ∧ j ≤ 5 ∧ (f = false → q = k ∧ a = acc ∧ ∀ d ∈ Xm.five.take j, (Xm.mark d).isPrefixOf (l.drop k) = false) ∧ (f = true → k ≤ q ∧ q < l.length ∧ l = Xm.escape a ++ l.drop (q + 1)) ∧ Below (gA + 1) w1 w2) (fun _ _ _ jv _ => 5 - (intOf jv).toNat)
        case atStart => exact ⟨k, 0, acc, false, rfl, rfl, rfl, rfl, by omega, fun _ => ⟨rfl, rfl, fun d hd => absurd hd (by simp)⟩, fun h => absurd h (by simp), hbel⟩
        case round =>
          obtain ⟨q, j, a, f, rfl, rfl, rfl, rfl, hj, hff, hft, hbel2⟩ := hrel
          cases f with
          | true =>
            obtain ⟨hkq, hql, hq⟩ := hft rfl
            have HQ := Lib.hid hq
            clear hff hft hq
            have hjj : (j : Int) ≤ 5 := by omega
            have i0 : (0 : Int) ≤ (q : Int) := by omega
            have i1 : (q : Int) < (l.length : Int) := by omega
            by_cases hj5 : j < 5
            · have hjI : (j : Int) < 5 := by omega
              go_wp2_with fail
              go_roundw
              case rel => exact ⟨q + 1, a, by omega, by go_num, rfl, HQ.out, hbel2⟩
              case measure => simp [intOf]; omega
            · have hjI : ¬ (j : Int) < 5 := by omega
              go_wp2_with fail
              go_roundw
              case rel => exact ⟨q + 1, a, by omega, by go_num, rfl, HQ.out, hbel2⟩
              case measure => simp [intOf]; omega
          | false =>
            obtain ⟨rfl, rfl, hno⟩ := hff rfl
            clear hff hft
            have hbw2 := hb1.trans (hbel2.mono (by omega : w.heap.size ≤ gA + 1))
            have jj0 : (0 : Int) ≤ (j : Int) := by omega
            by_cases hj5 : j < 5
            · obtain ⟨d, hd⟩ : ∃ d, d = Xm.five[j]'(by simpa [Xm.five] using hj5) := ⟨_, rfl⟩
              have hdm : d ∈ Xm.five := hd ▸ List.getElem_mem _
              have hcell : wr.cell? ⟨gA, j, none⟩ = some (B d) := by
                have hb2 := (hbel2.block gA (by omega)).trans hblk
                rw [cell_of_row wr gA j _ _ _ hb2, hd]
                match j, hj5 with
                | 0, _ => rfl
                | 1, _ => rfl
                | 2, _ => rfl
                | 3, _ => rfl
                | 4, _ => rfl
              have htk : Xm.five.take (j + 1) = Xm.five.take j ++ [d] := by rw [List.take_succ_eq_append_getElem (by simpa [Xm.five] using hj5), hd]
              have hM := fun w' => mark_any d w'
              have HTK := Lib.hid htk
              clear htk hd
              have h5 : Xm.fiveB d = true := by
                simp only [Xm.five, List.mem_cons, List.not_mem_nil, or_false] at hdm
                rcases hdm with rfl | rfl | rfl | rfl | rfl <;> decide
              have hml : (Xm.mark d).length ≤ 6 := by rw [← (Xm.esc1_five h5).1]; exact esc1_len _
              have hml1 : 1 ≤ (Xm.mark d).length := by
                obtain ⟨_, x, t, e, _⟩ := Xm.esc1_five h5
                rw [e]; simp
              have hext := ext_S s q (Xm.mark d).length
              rw [HSL.out] at hext
              have hjI : (j : Int) < 5 := by omega
              have hms : (S (Xm.mark d)).size = (Xm.mark d).length := rfl
              have HMS := Lib.hid hms
              cases hp : (Xm.mark d).isPrefixOf (l.drop q) with
              | true =>
                obtain ⟨t, ht⟩ := List.isPrefixOf_iff_prefix.1 hp
                have hlen : (Xm.mark d).length + t.length = l.length - q := by rw [← List.length_append, ht, List.length_drop]
                have hdrop : l.drop (q + (Xm.mark d).length) = t := by rw [← List.drop_drop, ← ht]; simp
                rw [← ht, List.take_left] at hext
                have HQ : Hid (l = Xm.escape (a ++ [d]) ++ l.drop (q + ((Xm.mark d).length - 1) + 1)) := Lib.hid (by
                  rw [show q + ((Xm.mark d).length - 1) + 1 = q + (Xm.mark d).length by omega, hdrop, ← Xm.un_step_mark h5, ht, HA38.out]
                  exact HACC.out)
                have hq1 : ((q : Int) + ((S (Xm.mark d)).size : Int)) ≤ (s.size : Int) := by omega
                have hq2 : IntKind.i64.wrap ((q : Int) + ((S (Xm.mark d)).size : Int)) = (q : Int) + ((S (Xm.mark d)).size : Int) := IntWalk.i64_in _ (by omega)
                have hq3 : ((q : Int) + ((S (Xm.mark d)).size : Int)).toNat = q + (Xm.mark d).length := by omega
                have hq4 : (0 : Int) ≤ (q : Int) + ((S (Xm.mark d)).size : Int) := by omega
                have hq5 : (q : Int) ≤ (q : Int) + ((S (Xm.mark d)).size : Int) := by omega
                have hq6 : IntKind.i64.wrap ((q : Int) + ((S (Xm.mark d)).size : Int) - 1) = ((q + ((Xm.mark d).length - 1) : Nat) : Int) := by rw [IntWalk.i64_in _ (by omega)]; omega
                have hcmp : ((S (Xm.mark d)).toList == (S (Xm.mark d)).toList) = true := by simp
                have HQL : Hid (q + ((Xm.mark d).length - 1) < l.length) := Lib.hid (by omega)
                have hgs : gA + 1 ≤ wr.heap.size := Nat.le_trans hgl hbel2.size
                have a1 := fun w' : World => run_add_S w' a [d] (by simp; omega)
                have a2 := run_one wr d
                clear hp ht hlen hdrop hno hms h5 hdm hml hml1
                go_wp2_with fail
                refine (hM _).mono ?_
                rintro e w' ⟨rfl, rfl⟩
                go_wp2_with fail
                go_roundw
                case rel => exact ⟨q + ((Xm.mark d).length - 1), j + 1, a ++ [d], true, rfl, by go_num, rfl, by go_num, by omega, fun h => absurd h (by simp), fun _ => ⟨by omega, HQL.out, HQ.out⟩, hbel2.alloc hgs _⟩
                case measure => simp [intOf]; omega
              | false =>
                have hno2 : ∀ d' ∈ Xm.five.take (j + 1), (Xm.mark d').isPrefixOf (l.drop q) = false := by
                  intro d' hd'
                  rw [HTK.out] at hd'
                  rcases List.mem_append.1 hd' with h | h
                  · exact hno d' h
                  · rw [List.mem_singleton.1 h]; exact hp
                by_cases hfit : q + (Xm.mark d).length ≤ l.length
                · have hne : (l.drop q).take (Xm.mark d).length ≠ Xm.mark d := by
                    intro e
                    have : (Xm.mark d).isPrefixOf (l.drop q) = true := List.isPrefixOf_iff_prefix.2 ⟨(l.drop q).drop (Xm.mark d).length, by have h := List.take_append_drop (Xm.mark d).length (l.drop q); rw [e] at h; exact h⟩
                    rw [hp] at this
                    exact absurd this (by decide)
                  have hq1 : ((q : Int) + ((S (Xm.mark d)).size : Int)) ≤ (s.size : Int) := by omega
                  have hq2 : IntKind.i64.wrap ((q : Int) + ((S (Xm.mark d)).size : Int)) = (q : Int) + ((S (Xm.mark d)).size : Int) := IntWalk.i64_in _ (by omega)
                  have hq3 : ((q : Int) + ((S (Xm.mark d)).size : Int)).toNat = q + (Xm.mark d).length := by omega
                  have hq4 : (0 : Int) ≤ (q : Int) + ((S (Xm.mark d)).size : Int) := by omega
                  have hq5 : (q : Int) ≤ (q : Int) + ((S (Xm.mark d)).size : Int) := by omega
                  have hcmp : ((S ((l.drop q).take (Xm.mark d).length)).toList == (S (Xm.mark d)).toList) = false := by rw [S_list, S_list]; simpa using hne
                  have HNO2 := Lib.hid hno2
                  clear hp hno hno2 hne hms h5 hdm hml hml1
                  go_wp2_with fail
                  refine (hM _).mono ?_
                  rintro e w' ⟨rfl, rfl⟩
                  go_wp2_with fail
                  go_roundw
                  case rel => exact ⟨q, j + 1, a, false, rfl, rfl, rfl, by go_num, by omega, fun _ => ⟨rfl, rfl, HNO2.out⟩, fun h => absurd h (by simp), hbel2⟩
                  case measure => simp [intOf]; omega
                · have hq1 : ¬ ((q : Int) + ((S (Xm.mark d)).size : Int)) ≤ (s.size : Int) := by omega
                  have hq2 : IntKind.i64.wrap ((q : Int) + ((S (Xm.mark d)).size : Int)) = (q : Int) + ((S (Xm.mark d)).size : Int) := IntWalk.i64_in _ (by omega)
                  have HNO2 := Lib.hid hno2
                  clear hp hno hno2 hms h5 hdm hml hml1
                  go_wp2_with fail
                  refine (hM _).mono ?_
                  rintro e w' ⟨rfl, rfl⟩
                  go_wp2_with fail
                  go_roundw
                  case rel => exact ⟨q, j + 1, a, false, rfl, rfl, rfl, by go_num, by omega, fun _ => ⟨rfl, rfl, HNO2.out⟩, fun h => absurd h (by simp), hbel2⟩
                  case measure => simp [intOf]; omega
            · have hj6 : j = 5 := by omega
              have hjI : ¬ (j : Int) < 5 := by omega
              have HN : Hid (Xm.unescape l = none) := Lib.hid (by
                rw [HACC.out]
                refine Xm.un_loose (fun d hd => ?_)
                have := hno d (by rw [hj6]; exact hd)
                rw [HA38.out] at this
                exact this)
              clear hno hj6
              go_wp2_with fail
              go_ret2
              exact ⟨by rw [HN.out]; rfl, hbw2⟩
      · have k38 := u8_ne (n := 38) 38 rfl h38
        have hf : Xm.fiveB s[k] = false := by
          unfold Xm.fiveB
          simp [h38, h60, h62, h34, h39]
        have HN : Hid (l = Xm.escape (acc ++ [s[k]]) ++ l.drop (k + 1)) := Lib.hid (by rw [← Xm.un_step_plain hf]; exact HACC.out)
        have hx := extract_one s k hks
        have hw2 : IntKind.i64.wrap ((k : Int) + 1) = (k : Int) + 1 := IntWalk.i64_in _ (by omega)
        have j2 : (k : Int) + 1 ≤ (l.length : Int) := by omega
        have j3 : (k : Int) ≤ (k : Int) + 1 := by omega
        have j4 : ((k : Int) + 1).toNat = k + 1 := by omega
        have a1 := fun w' : World => run_add_S w' acc [s[k]] (by simp; omega)
        clear h60 h62 h34 h39 h38 hf
        go_wp2_with fail
        go_roundw
        case rel => exact ⟨k + 1, _, by omega, by go_num, rfl, HN.out, hbel⟩
        case measure => simp [intOf]; omega
    · have HN : Hid (Xm.unescape l = some acc) := Lib.hid (by
        rw [List.drop_of_length_le (by omega), List.append_nil] at hacc
        conv => lhs; rw [hacc]
        exact Xm.un_end acc)
      clear hacc
      go_wp2
      go_ret2
      exact ⟨by rw [HN.out]; rfl, hbw⟩
end Go.Proofs.YtpleaopefngafaaDoor
