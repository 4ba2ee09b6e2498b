/- What the document's Cut and Few of pairs answer. (Of earlier texts, without package pct.) -/
import Derived.Test.YtehgigfngelkjaaDoorCa
namespace Go.Proofs.YtehgigfngelkjaaDoor
set_option maxRecDepth 8000
open Go.RowKit

theorem Tryd.infoString : (Tryd.prog.info? 9).map (fun i => (i.zero, i.size, i.bytes)) = some (some (.string ⟨#[]⟩), 1, 16) := by kernel_rfl
def strsV (ps : List (List UInt8)) : List Value := ps.map fun p => .string (S p)
/-- The slice value v owns the texts ps. -/
def SRow (base : Nat) (w : World) (v : Value) (ps : List (List UInt8)) : Prop := w.ownsRow base 9 1 v ps.length (strsV ps)
/-- What has been cut, and what is left. -/
def CInv (c : UInt8) (l : List UInt8) (ps : List (List UInt8)) (f k : Nat) : Prop := Pct.split c l = ps ++ Pct.split c (l.drop f) ∧ f ≤ k ∧ ∀ (j : Nat) (hj : j < l.length), f ≤ j → j < k → l[j] ≠ c
section
variable {c : UInt8} {l : List UInt8} {ps : List (List UInt8)} {f k : Nat}
theorem CInv.piece (h : CInv c l ps f k) (hk : k ≤ l.length) : ∀ x ∈ (l.drop f).take (k - f), x ≠ c := by
  intro x hx
  obtain ⟨i, hi, rfl⟩ := List.getElem_of_mem hx
  rw [List.length_take, List.length_drop] at hi
  rw [List.getElem_take, List.getElem_drop]
  exact h.2.2 (f + i) (by omega) (by omega) (by omega)
theorem CInv.hit (h : CInv c l ps f k) (hk : k < l.length) (hc : l[k] = c) : CInv c l (ps ++ [(l.drop f).take (k - f)]) (k + 1) (k + 1) := by
  have hf := h.2.1
  refine ⟨?_, Nat.le_refl _, fun j hj h1 h2 => absurd h1 (by omega)⟩
  have e : l.drop f = (l.drop f).take (k - f) ++ c :: l.drop (k + 1) := by
    have h1 : l.drop f = (l.drop f).take (k - f) ++ (l.drop f).drop (k - f) := (List.take_append_drop _ _).symm
    rw [List.drop_drop, show f + (k - f) = k by omega, List.drop_eq_getElem_cons hk, hc] at h1
    exact h1
  rw [h.1, e, Pct.split_append, Pct.split_none c _ (h.piece (by omega))]
  rw [← e]
  simp
theorem CInv.other (h : CInv c l ps f k) (hk : k < l.length) (hc : l[k] ≠ c) : CInv c l ps f (k + 1) := by
  refine ⟨h.1, by have := h.2.1; omega, fun j hj h1 h2 => ?_⟩
  by_cases e : j = k
  · subst e; exact hc
  · exact h.2.2 j hj h1 (by omega)
theorem CInv.done (h : CInv c l ps f k) (hk : k = l.length) : Pct.split c l = ps ++ [l.drop f] := by
  have hf := h.2.1
  have := h.piece (by omega)
  rw [List.take_of_length_le (by rw [List.length_drop]; omega)] at this
  rw [h.1, Pct.split_none c _ this]
end
theorem extract_piece (s : ByteArray) (f k : Nat) : s.extract f k = S ((s.data.toList.drop f).take (k - f)) := by
  have h1 : (s.extract f k).data.toList = (s.data.toList.drop f).take (k - f) := by
    rw [ByteArray.data_extract, Array.toList_extract, List.extract_eq_take_drop]
  rw [← S_eq (s.extract f k), h1]
theorem extract_rest (s : ByteArray) (f : Nat) : s.extract f s.size = S (s.data.toList.drop f) := by
  rw [← S_eq (s.extract f s.size), extract_toList]
theorem srow_snoc {base : Nat} {w1 : World} {ps : List (List UInt8)} {p : List UInt8} {gg cap : Nat}
    (h : w1.ownsRow base 9 1 (.slice (some ⟨gg, 0, none⟩) (ps.length + 1) cap) (ps.length + 1) (strsV ps ++ [.string (S p)])) : SRow base w1 (.slice (some ⟨gg, 0, none⟩) (ps.length + 1) cap) (ps ++ [p]) := by
  unfold SRow
  rw [List.length_append]
  have : strsV (ps ++ [p]) = strsV ps ++ [.string (S p)] := by simp [strsV]
  rw [this]
  exact h
theorem lt_of_blk {w1 : World} {b : Nat} {o : Obj} (hbk : w1.heap[b]? = some o) : b < w1.heap.size := by
  rcases Nat.lt_or_ge b w1.heap.size with h | h
  · exact h
  · rw [Array.getElem?_eq_none h] at hbk
    cases hbk
theorem SRow.open {base : Nat} {w : World} {v : Value} {ps : List (List UInt8)} (h : SRow base w v ps) (hn : ps ≠ []) :
    ∃ g cap, v = .slice (some ⟨g, 0, none⟩) ps.length cap ∧ g < w.heap.size ∧ ∀ k (hk : k < ps.length), w.cell? ⟨g, k, none⟩ = some (.string (S ps[k])) := by
  rcases h.2 with ⟨_, h0⟩ | ⟨g, cap, cur, hv, hbase, hg, hr⟩
  · exact absurd (List.length_eq_zero_iff.1 h0) hn
  · refine ⟨g, cap, hv, lt_of_blk hg, fun k hk => ?_⟩
    subst hv
    have := World.ownsRow.cells h (g := g) rfl k (.string (S ps[k])) (by simp [strsV, hk])
    rw [Addr.add_mid, Nat.zero_add] at this
    exact this
theorem split_count (c : UInt8) : ∀ l : List UInt8, (Pct.split c l).length ≤ l.length + 1
  | [] => by simp [Pct.split]
  | x :: r => by
    have ih := split_count c r
    by_cases hx : x = c
    · rw [hx, Pct.split_hit]
      simp
      exact ih
    · cases hs : Pct.split c r with
      | nil => exact absurd hs (Pct.split_ne c r)
      | cons p ps =>
        rw [Pct.split_other c x r p ps hx hs]
        rw [hs] at ih
        simp at ih ⊢
        omega
theorem split_piece (c : UInt8) : ∀ (l p : List UInt8), p ∈ Pct.split c l → p.length ≤ l.length
  | [], p, h => by
    simp [Pct.split] at h
    simp [h]
  | x :: r, p, h => by
    by_cases hx : x = c
    · rw [hx, Pct.split_hit, List.mem_cons] at h
      rcases h with rfl | h
      · simp
      · have := split_piece c r p h
        simp
        omega
    · cases hs : Pct.split c r with
      | nil => exact absurd hs (Pct.split_ne c r)
      | cons q qs =>
        rw [Pct.split_other c x r q qs hx hs, List.mem_cons] at h
        rcases h with rfl | h
        · have := split_piece c r q (by rw [hs]; simp)
          simp
          omega
        · have := split_piece c r p (by rw [hs]; simp [h])
          simp
          omega
theorem own_mono {w : World} {base base' : Nat} {e : TypeId} {size : Nat} {v : Value} {n : Nat} {xs : List Value} (h : w.ownsRow base e size v n xs) (hb : base' ≤ base) : w.ownsRow base' e size v n xs := by
  refine ⟨h.1, ?_⟩
  rcases h.2 with h1 | ⟨g, cap, cur, hv, hbase, hr⟩
  · exact .inl h1
  · exact .inr ⟨g, cap, cur, hv, by omega, hr⟩
def few1 (q : Pct.PairL) : Bool := decide (q.1.length ≤ 60) && decide (q.2.length ≤ 60)
def fewB (l : List Pct.PairL) : Bool := l.all few1 && decide (l.length ≤ 50)
theorem fewB_bad {l : List Pct.PairL} {k : Nat} (hk : k < l.length) (h : few1 l[k] = false) : fewB l = false := by
  unfold fewB
  have : l.all few1 = false := by
    rw [← Bool.not_eq_true, List.all_eq_true]
    intro ha
    rw [ha _ (List.getElem_mem hk)] at h
    cases h
  rw [this]
  rfl
theorem few1_all {l : List Pct.PairL} (h : ∀ j (hj : j < l.length), few1 l[j] = true) : l.all few1 = true := by
  rw [List.all_eq_true]
  intro x hx
  obtain ⟨j, hj, rfl⟩ := List.getElem_of_mem hx
  exact h j hj
set_option maxHeartbeats 400000 in
theorem few_any (A : Option Addr) (cap : Nat) (l : List Pct.PairL) (w : World) (hl : PCells w w.heap.size A l) (hm : l.length ≤ 9223372036854775807) :
    Calls Tryd.prog 30 #[.slice A l.length cap] w fun e w' => e = .returned (.bool (fewB l)) ∧ w = w' := by
  go_enter Tryd.func30, Tryd.ntmps30
  go_wp2
  go_loop [3] (fun i => ∃ k : Nat, k ≤ l.length ∧ i = .int .i64 k ∧ ∀ j (hj : j < l.length), j < k → few1 l[j] = true) (fun i => l.length - (intOf i).toNat)
  case atStart => exact ⟨0, Nat.zero_le _, rfl, fun j _ hj => absurd hj (by omega)⟩
  case round =>
    obtain ⟨k, hk, rfl, hall⟩ := hrel
    have HALL := Lib.hid hall
    clear hall
    by_cases hlt : k < l.length
    · obtain ⟨b, off, rfl, hbb, hc⟩ := hl (by omega)
      obtain ⟨c0, c1⟩ := hc k hlt
      clear hc
      have i0 : (0 : Int) ≤ (k : Int) := by omega
      have i1 : (k : Int) < (l.length : Int) := by omega
      have z1 : (S l[k].1).size = l[k].1.length := rfl
      have z2 : (S l[k].2).size = l[k].2.length := rfl
      by_cases h1 : (S l[k].1).size ≤ 60
      · by_cases h2 : (S l[k].2).size ≤ 60
        · have HF := Lib.hid (show few1 l[k] = true by unfold few1; rw [← z1, ← z2]; simp [h1, h2])
          clear z1 z2
          go_wp2
          go_round
          case rel =>
            refine ⟨k + 1, by omega, by go_num, fun j hj hjk => ?_⟩
            by_cases e : j = k
            · subst e; exact HF.out
            · exact HALL.out j hj (by omega)
          case measure => simp [intOf]; omega
        · have HF := Lib.hid (fewB_bad hlt (show few1 l[k] = false by unfold few1; rw [← z1, ← z2]; simp [h2]))
          clear z1 z2
          go_wp2
          go_ret
          exact ⟨ret_bool HF.out.symm, rfl⟩
      · have HF := Lib.hid (fewB_bad hlt (show few1 l[k] = false by unfold few1; rw [← z1, ← z2]; simp [h1]))
        clear z1 z2
        go_wp2
        go_ret
        exact ⟨ret_bool HF.out.symm, rfl⟩
    · have HF := Lib.hid (show l.all few1 = true from few1_all fun j hj => HALL.out j hj (by omega))
      go_wp2
      go_ret
      refine ⟨ret_bool ?_, rfl⟩
      unfold fewB
      rw [HF.out]
      simp
      omega
end Go.Proofs.YtehgigfngelkjaaDoor
