/- Small facts for the statements of trees: records that are the same, what a path is, is a text in a list, rows that grow. No condition. -/
import Derived.Test.YtfeaonbeklmfgaaGreatDoorTrK
namespace Go.Proofs.YtfeaonbeklmfgaaGreatDoor
set_option maxRecDepth 8000
open Go.RowKit

theorem records_same {w : World} {base base' : Nat} {v v' : Value} {l : List Rk.R} (h : RRow base w v l) (h' : RRow base' w v' l) (hl : l.length ≤ 1048576) :
    Calls Tryz.prog 17 #[v, v'] w fun e w' => e = .returned (.bool true) ∧ Below w.heap.size w w' := by
  obtain ⟨A, c, rfl, h1⟩ := h.form
  obtain ⟨A', c', rfl, h2⟩ := h'.form
  exact (recordsT_any w A A' c c' l l h1 h2 hl).mono fun e w' ⟨he, hb⟩ => ⟨by rw [he, decide_eq_true rfl], hb⟩
theorem roomT_le (room : Int) : roomT room ≤ 64 := by unfold roomT; split <;> omega
theorem S_bne (a b : List UInt8) : ((S a).toList != (S b).toList) = !decide (a = b) := by unfold bne; rw [S_beq]
/-- What a path is: from a name, each one's parent behind it, up to one without a parent. -/
def PathOk (l : List Rk.R) (x : List UInt8) (P : List (List UInt8)) : Prop :=
  0 < P.length ∧ P.length ≤ l.length ∧ P[0]? = some x ∧ ∀ (j : Nat) (p : List UInt8), P[j]? = some p → Tr.has l p = true ∧ (j + 1 < P.length ↔ (getR l p).parent ≠ []) ∧ (∀ q, P[j + 1]? = some q → (getR l p).parent = q) ∧ (j + 1 = P.length → (getR l p).kind = 1 ∨ (getR l p).kind = 6)
theorem path_ok {m : Nat} {l : List Rk.R} (hg : Tr.Good m l) {x : List UInt8} (hx : Tr.pl l x < l.length) : PathOk l x (Tr.path l x) := by
  obtain ⟨h1, h2, h3⟩ := hg.pth_way l.length x hx hx
  have ht := fun j hj h hl => hg.path_top hx j hj h hl
  have e : Tr.pth l l.length x = Tr.path l x := rfl
  rw [e] at h1 h2 h3
  refine ⟨?_, by omega, h2, fun j p hp => ?_⟩
  · rcases Nat.eq_zero_or_pos (Tr.path l x).length with h | h
    · rw [List.getElem?_eq_none (by omega)] at h2; cases h2
    · exact h
  · obtain ⟨hj, rfl⟩ := List.getElem?_eq_some_iff.1 hp
    obtain ⟨k1, k2, k3⟩ := h3 j hj
    have hr : getR l (Tr.path l x)[j] = l[Tr.pl l (Tr.path l x)[j]] := by unfold getR; rw [dif_pos k1]
    rw [hr]
    refine ⟨Tr.has_iff.2 k1, k2, fun q hq => ?_, fun h => ht j hj k1 h⟩
    obtain ⟨hj1, rfl⟩ := List.getElem?_eq_some_iff.1 hq
    exact k3 hj1
theorem u8_natT {z : Int} (h : (Lit.int .u8 z).wf = true) : ∃ n : Nat, z = n ∧ n < 256 := by
  have e1 : IntKind.u8.min = 0 := by decide
  have e2 : IntKind.u8.max = 255 := by decide
  simp [Lit.wf] at h
  rw [e1, e2] at h
  exact ⟨z.toNat, by omega, by omega⟩
set_option maxHeartbeats 800000 in
theorem in_any (A : Option Addr) (cap : Nat) (ls : List (List UInt8)) (s : List UInt8) (w : World) (hc : SCells w w.heap.size A ls) (hl : ls.length ≤ 1048576) :
    Calls Tryz.prog 41 #[.slice A ls.length cap, .string (S s)] w fun e w' => e = .returned (.bool (decide (s ∈ ls))) ∧ w = w' := by
  have HC := Lib.hid hc
  clear hc
  go_enter Tryz.func41, Tryz.ntmps41
  go_wp2_with fail
  go_loopw [5] (fun i wr => ∃ k : Nat, k ≤ ls.length ∧ i = .int .i64 k ∧ (∀ j (hj : j < ls.length), j < k → ls[j] ≠ s) ∧ w = wr) (fun i _ => ls.length - (intOf i).toNat)
  case atStart => exact ⟨0, Nat.zero_le _, rfl, fun j _ hj => absurd hj (by omega), rfl⟩
  case round =>
    obtain ⟨k, hk, rfl, hall, rfl⟩ := hrel
    have HALL := Lib.hid hall
    clear hall
    by_cases hlt : k < ls.length
    · obtain ⟨b, off, rfl, -, hcc⟩ := HC.out (by omega)
      have hx := hcc k hlt
      have n0 : (0 : Int) ≤ (k : Int) := by omega
      have n1 : (k : Int) < (ls.length : Int) := by omega
      obtain ⟨x, hxx⟩ : ∃ x, x = ls[k] := ⟨_, rfl⟩
      rw [← hxx] at hx
      have hS := S_beq x s
      have HLT := Lib.hid hlt
      have HXX := Lib.hid hxx
      clear hxx hcc
      by_cases he : x = s
      · rw [decide_eq_true he] at hS
        have HF := Lib.hid (show decide (s ∈ ls) = true from decide_eq_true (by rw [← he, HXX.out]; exact List.getElem_mem hlt))
        clear he
        go_wp2_with fail
        go_ret
        exact ⟨by rw [HF.out]; rfl, rfl⟩
      · rw [decide_eq_false he] at hS
        have HE := Lib.hid (show ls[k] ≠ s from fun h => he (HXX.out.trans h))
        clear he
        go_wp2_with fail
        go_roundw
        case rel =>
          refine ⟨k + 1, by have := HLT.out; omega, by go_num, fun j hj hjk => ?_, trivial⟩
          by_cases e : j = k
          · subst e; exact HE.out
          · exact HALL.out j hj (by omega)
        case measure => have := HLT.out; simp [intOf]; omega
    · have HF := Lib.hid (show decide (s ∈ ls) = false from decide_eq_false (fun h => by
        obtain ⟨j, hj, e⟩ := List.getElem_of_mem h
        exact HALL.out j hj (by omega) e))
      go_wp2_with fail
      go_ret
      exact ⟨by rw [HF.out]; rfl, rfl⟩
/-- append(l, r) of records of the call's own. -/
theorem wpList_rec {W : World} {ops : Array Oper} {rest : List Oper} {o : Oper} {a : Act} {Q : Exit → Act → World → Prop} (hgd : o.guard = none) (s x : Operand) (base B : Nat) (v : Value) (l : List Rk.R) (r : Rk.R)
    (ho : o.op = .call { callee := .builtin .append, args := #[s, x], argTypes := #[43, 43] }) (hs : a.eval s = v) (hx : a.eval x = .slice (some ⟨B, 0, none⟩) 1 1)
    (hown : RRow base W v l) (hB : W.heap[B]? = some (.cells (recCs r) 30 (0, 0))) (hn : l.length ≤ 1048576) (hb : base ≤ W.heap.size)
    (h : ∀ g cap W', RRow base W' (.slice (some ⟨g, 0, none⟩) (l.length + 1) cap) (l ++ [r]) → W.grownBy W' v.ownBlock → Below base W W' → wpList Tryz.prog ops Q rest (a.put o.dst (.slice (some ⟨g, 0, none⟩) (l.length + 1) cap)) W') : wpList Tryz.prog ops Q (o :: rest) a W := by
  obtain ⟨i0, hi, hz0, hz1, hz2⟩ := info_parts Tryz.infoRec
  refine wpList_append_lies W hgd s x 43 ho base 30 i0 _ 10 120 Tryz.underlying43 hi hz0 hz1 hz2 rfl (by omega) v l.length (cells10 l) hs hown ⟨B, 0, none⟩ 1 1 (cellsR r) hx rfl (World.news_of_block (cs := recCs r) hB) (cellsR_one r) (by omega) (by unfold maxLen; omega) (by omega) hb W.heap.size rfl ?_
  intro g cap W' h2 h3 _ _
  refine h g cap W' ?_ h3 ((Below.refl _ _).grown h3 hb (fun k hk => (World.ownsRow.lt hown k hk).1))
  unfold RRow
  rw [List.length_append, cells10_append]
  have e : cells10 [r] = cellsR r := by simp [cells10]
  rw [e]
  exact h2
theorem rows_apart {b b' : Nat} {w : World} {v v' : Value} {l : List (List UInt8)} {l' : List Rk.R} (h : SRow b w v l) (h' : RRow b' w v' l') : v'.ownBlock = none ∨ v'.ownBlock ≠ v.ownBlock := by
  rcases h'.2 with ⟨rfl, _⟩ | ⟨g, cap, cur, rfl, _, hg, _⟩
  · exact .inl rfl
  · right
    intro e
    rcases h.2 with ⟨rfl, _⟩ | ⟨g', cap', cur', rfl, _, hg', _⟩
    · simp [Value.ownBlock] at e
    · simp [Value.ownBlock] at e
      subst e
      rw [hg] at hg'
      injection hg' with hg'
      injection hg' with _ hg' _
      exact absurd hg' (by decide)
theorem rows_apart2 {b b' : Nat} {w : World} {v v' : Value} {l : List (List UInt8)} {l' : List Rk.R} (h : SRow b w v l) (h' : RRow b' w v' l') : v.ownBlock = none ∨ v.ownBlock ≠ v'.ownBlock := by
  rcases rows_apart h h' with h1 | h1
  · rcases h.2 with ⟨rfl, _⟩ | ⟨g, cap, cur, rfl, _⟩
    · exact .inl rfl
    · exact .inr (by rw [h1]; simp [Value.ownBlock])
  · exact .inr h1.symm
end Go.Proofs.YtfeaonbeklmfgaaGreatDoor
