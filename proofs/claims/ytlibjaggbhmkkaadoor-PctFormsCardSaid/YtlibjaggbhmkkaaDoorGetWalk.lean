/- What package pct's Get and the document's Get answer, for any slice of at most 1000 pairs and any name. -/
import Derived.Test.YtlibjaggbhmkkaaDoorReadWalk
namespace Go.Proofs.YtlibjaggbhmkkaaDoor
open Go.RowKit

theorem getN_snoc (nm : List UInt8) (a : List Pct.PairL) (q : Pct.PairL) : Pct.getN nm (a ++ [q]) = Pct.getN nm a + (if q.1 = nm then 1 else 0) := by
  unfold Pct.getN
  rw [List.filter_append, List.length_append]
  congr 1
  by_cases h : q.1 = nm <;> simp [h]
theorem getN_cons (nm : List UInt8) (a : List Pct.PairL) (q : Pct.PairL) : Pct.getN nm (q :: a) = Pct.getN nm a + (if q.1 = nm then 1 else 0) := by
  unfold Pct.getN
  by_cases h : q.1 = nm <;> simp [h]
theorem getN_le (nm : List UInt8) (a : List Pct.PairL) : Pct.getN nm a ≤ a.length := List.length_filter_le _ _
theorem getV_snoc (nm : List UInt8) (q : Pct.PairL) : ∀ a : List Pct.PairL, Pct.getV nm (a ++ [q]) = if Pct.getN nm a = 0 then (if q.1 = nm then q.2 else []) else Pct.getV nm a
  | [] => by simp [Pct.getV, Pct.getN]
  | x :: r => by
    have ih := getV_snoc nm q r
    rw [List.cons_append, Pct.getV, Pct.getV, getN_cons, ih]
    by_cases h : x.1 = nm
    · simp [h]
    · simp [h]

theorem getV_zero (nm : List UInt8) : ∀ a : List Pct.PairL, Pct.getN nm a = 0 → [] = Pct.getV nm a
  | [], _ => rfl
  | x :: r, h => by
    rw [getN_cons] at h
    by_cases hx : x.1 = nm
    · rw [if_pos hx] at h; omega
    · rw [if_neg hx] at h
      rw [Pct.getV, if_neg hx]
      exact getV_zero nm r (by omega)

theorem bne_S {a b : List UInt8} (h : a = b) : ((S a).toList != (S b).toList) = false := by rw [S_list, S_list, h]; simp
theorem bne_S' {a b : List UInt8} (h : a ≠ b) : ((S a).toList != (S b).toList) = true := by rw [S_list, S_list]; simpa using h
theorem beq_S {a b : List UInt8} (h : a = b) : ((S a).toList == (S b).toList) = true := by rw [S_list, S_list, h]; simp
theorem beq_S' {a b : List UInt8} (h : a ≠ b) : ((S a).toList == (S b).toList) = false := by rw [S_list, S_list]; simpa using h

set_option maxHeartbeats 400000 in
theorem get_any (A : Option Addr) (cap : Nat) (l : List Pct.PairL) (nm : List UInt8) (w : World) (hl : PCells w w.heap.size A l) (hm : l.length ≤ 1000) :
    Calls Tryd.prog 21 #[.slice A l.length cap, .string (S nm)] w (Told w (.returned (.tuple #[.string (S (Pct.getV nm l)), .int .i64 (Pct.getN nm l : Int)]))) := by
  go_enter Tryd.func21, Tryd.ntmps21
  go_wp2
  go_loopw [6, 7, 12] (fun val cnt i wr => ∃ (k c : Nat) (x : List UInt8), k ≤ l.length ∧ i = .int .i64 k ∧ val = .string (S x) ∧ cnt = .int .i64 c ∧ x = Pct.getV nm (l.take k) ∧ c = Pct.getN nm (l.take k) ∧ Below w.heap.size w wr) (fun _ _ i _ => l.length - (intOf i).toNat)
  case atStart => exact ⟨0, 0, [], Nat.zero_le _, rfl, rfl, rfl, rfl, rfl, Below.refl _ _⟩
  case round =>
    obtain ⟨k, c, x, hk, rfl, rfl, rfl, hx, hc, hb⟩ := hrel
    have hck : c ≤ 1000 := by
      rw [hc]
      have := getN_le nm (l.take k)
      have h2 : (l.take k).length ≤ k := List.length_take_le _ _
      omega
    have HX := Lib.hid hx
    have HC := Lib.hid hc
    clear hx hc
    by_cases hlt : k < l.length
    · obtain ⟨ab, off, rfl, hbb, hcl⟩ := hl (by omega)
      obtain ⟨c0', c1'⟩ := hcl k hlt
      clear hcl
      have HS := Lib.hid (getV_snoc nm l[k] (l.take k))
      have HN := Lib.hid (getN_snoc nm (l.take k) l[k])
      have HTK := Lib.hid (List.take_succ_eq_append_getElem hlt)
      obtain ⟨n, hn⟩ : ∃ n, n = l[k].1 := ⟨_, rfl⟩
      obtain ⟨v, hv⟩ : ∃ v, v = l[k].2 := ⟨_, rfl⟩
      rw [← hn] at c0'
      rw [← hv] at c1'
      have HNN := Lib.hid hn
      have HVV := Lib.hid hv
      clear hn hv
      have c0 : wr.cell? ⟨ab, off + k * 2, none⟩ = some (.string (S n)) := (hb.cell (p := ⟨ab, off + k * 2, none⟩) hbb).trans c0'
      have c1 : wr.cell? ⟨ab, off + k * 2 + 1, none⟩ = some (.string (S v)) := (hb.cell (p := ⟨ab, off + k * 2 + 1, none⟩) hbb).trans c1'
      clear c0' c1'
      have i0 : (0 : Int) ≤ (k : Int) := by omega
      have i1 : (k : Int) < (l.length : Int) := by omega
      by_cases hnm : n = nm
      · have ht := bne_S hnm
        have ht2 := beq_S hnm
        have HE := Lib.hid hnm
        clear hnm
        by_cases h0 : c = 0
        · have hz : ((c : Int) == 0) = true := by rw [h0]; rfl
          have H0 := Lib.hid h0
          clear h0
          go_wp2
          go_roundw
          case rel =>
            refine ⟨k + 1, c + 1, v, by omega, by go_num, rfl, by go_num, ?_, ?_, hb.alloc hb.size _⟩
            · rw [HTK.out, HS.out, ← HC.out, if_pos H0.out, ← HNN.out, if_pos HE.out, HVV.out]
            · rw [HTK.out, HN.out, ← HC.out, ← HNN.out, if_pos HE.out]
          case measure => simp [intOf]; omega
        · have hz : ((c : Int) == 0) = false := by simp; omega
          have H0 := Lib.hid h0
          clear h0
          go_wp2
          go_roundw
          case rel =>
            refine ⟨k + 1, c + 1, x, by omega, by go_num, rfl, by go_num, ?_, ?_, hb.alloc hb.size _⟩
            · rw [HTK.out, HS.out, ← HC.out, if_neg H0.out, HX.out]
            · rw [HTK.out, HN.out, ← HC.out, ← HNN.out, if_pos HE.out]
          case measure => simp [intOf]; omega
      · have ht := bne_S' hnm
        have ht2 := beq_S' hnm
        have HE := Lib.hid hnm
        clear hnm
        go_wp2
        go_roundw
        case rel =>
          refine ⟨k + 1, c, x, by omega, by go_num, rfl, rfl, ?_, ?_, hb.alloc hb.size _⟩
          · rw [HTK.out, HS.out, ← HNN.out, if_neg HE.out]
            by_cases h0 : Pct.getN nm (l.take k) = 0
            · rw [if_pos h0, HX.out]
              exact (getV_zero nm _ h0).symm
            · rw [if_neg h0, HX.out]
          · rw [HTK.out, HN.out, ← HC.out, ← HNN.out, if_neg HE.out, Nat.add_zero]
        case measure => simp [intOf]; omega
    · go_wp2
      go_ret2
      refine ⟨?_, hb⟩
      have e1 := HX.out
      have e2 := HC.out
      rw [List.take_of_length_le (by omega)] at e1 e2
      rw [← e1, ← e2]
      rfl

set_option maxHeartbeats 400000 in
theorem refGet_any (A : Option Addr) (cap : Nat) (l : List Pct.PairL) (nm : List UInt8) (w : World) (hl : PCells w w.heap.size A l) (hm : l.length ≤ 1000) :
    Calls Tryd.prog 22 #[.slice A l.length cap, .string (S nm)] w fun e w' => e = .returned (.tuple #[.string (S (Pct.getV nm l)), .int .i64 (Pct.getN nm l : Int)]) ∧ w = w' := by
  go_enter Tryd.func22, Tryd.ntmps22
  go_wp2
  go_loop [6, 7, 8] (fun val cnt i => ∃ (k c : Nat) (x : List UInt8), k ≤ l.length ∧ i = .int .i64 ((k : Int) - 1) ∧ val = .string (S x) ∧ cnt = .int .i64 c ∧ x = Pct.getV nm (l.drop k) ∧ c = Pct.getN nm (l.drop k)) (fun _ _ i => (intOf i + 1).toNat)
  case atStart => exact ⟨l.length, 0, [], Nat.le_refl _, rfl, rfl, rfl, by simp [Pct.getV], by simp [Pct.getN]⟩
  case round =>
    obtain ⟨k, c, x, hk, rfl, rfl, rfl, hx, hc⟩ := hrel
    have hck : c ≤ 1000 := by
      rw [hc]
      have := getN_le nm (l.drop k)
      rw [List.length_drop] at this
      omega
    have HX := Lib.hid hx
    have HC := Lib.hid hc
    clear hx hc
    by_cases h0 : 0 < k
    · obtain ⟨j, rfl⟩ : ∃ j, k = j + 1 := ⟨k - 1, by omega⟩
      have hlt : j < l.length := by omega
      obtain ⟨ab, off, rfl, hbb, hcl⟩ := hl (by omega)
      obtain ⟨c0, c1⟩ := hcl j hlt
      clear hcl
      have HD := Lib.hid (List.drop_eq_getElem_cons hlt)
      obtain ⟨n, hn⟩ : ∃ n, n = l[j].1 := ⟨_, rfl⟩
      obtain ⟨v, hv⟩ : ∃ v, v = l[j].2 := ⟨_, rfl⟩
      rw [← hn] at c0
      rw [← hv] at c1
      have HNN := Lib.hid hn
      have HVV := Lib.hid hv
      clear hn hv
      have i0 : (0 : Int) ≤ (j : Int) := by omega
      have i1 : (j : Int) < (l.length : Int) := by omega
      rw [show ((j + 1 : Nat) : Int) - 1 = (j : Int) by omega]
      by_cases hnm : n = nm
      · have ht := beq_S hnm
        have HE := Lib.hid hnm
        clear hnm
        go_wp2
        go_round
        case rel =>
          refine ⟨j, c + 1, v, by omega, rfl, rfl, by go_num, ?_, ?_⟩
          · rw [HD.out, Pct.getV, ← HNN.out, if_pos HE.out, HVV.out]
          · rw [HD.out, getN_cons, ← HNN.out, if_pos HE.out, HC.out]
        case measure => simp [intOf] <;> omega
      · have ht := beq_S' hnm
        have HE := Lib.hid hnm
        clear hnm
        go_wp2
        go_round
        case rel =>
          refine ⟨j, c, x, by omega, rfl, rfl, rfl, ?_, ?_⟩
          · rw [HD.out, Pct.getV, ← HNN.out, if_neg HE.out, HX.out]
          · have hcc := HC.out
            rw [HD.out, getN_cons, ← HNN.out, if_neg HE.out]
            omega
        case measure => simp [intOf] <;> omega
    · have hk0 : (k : Int) - 1 < 0 := by omega
      have e0 : k = 0 := by omega
      have H0 := Lib.hid e0
      clear e0
      go_wp2
      go_ret2
      refine ⟨?_, rfl⟩
      have e1 := HX.out
      have e2 := HC.out
      rw [H0.out, List.drop_zero] at e1 e2
      rw [← e1, ← e2]
      rfl
end Go.Proofs.YtlibjaggbhmkkaaDoor
