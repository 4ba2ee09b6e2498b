/- Pairs that are appended to a row of pairs of the call's own; which errors a form has. No condition. -/
import Derived.Test.YtbpeohadgplaaaaDoorHelp
import Derived.Maps.AppendAt
namespace Go.Proofs.YtbpeohadgplaaaaDoor
set_option maxRecDepth 8000
open Go.RowKit

theorem form_errs : ∀ (ps : List (List UInt8)) (acc : List Pct.PairL) (n : Nat), Pct.formGo acc ps = .error n → n = 5 ∨ n = 11
  | [], acc, n, h => by simp [Pct.formGo] at h
  | p :: ps, acc, n, h => by
    by_cases hp : p = []
    · subst hp
      rw [Pct.formGo_empty] at h
      exact form_errs ps acc n h
    · by_cases hl : acc.length = 32
      · rw [Pct.formGo_full acc p ps hp hl] at h
        injection h with h
        exact .inl h.symm
      · cases hq : Pct.pairOf p with
        | none =>
          rw [Pct.formGo_bad acc p ps hp hl hq] at h
          injection h with h
          exact .inr h.symm
        | some q =>
          rw [Pct.formGo_pair acc p ps q hp hl hq] at h
          exact form_errs ps _ n h

theorem cells2_len (m : List Pct.PairL) : (cells2 m).length = m.length * 2 := by
  induction m with
  | nil => rfl
  | cons q r ih =>
    have e : cells2 (q :: r) = .string (S q.1) :: .string (S q.2) :: cells2 r := rfl
    rw [e, List.length_cons, List.length_cons, ih, List.length_cons]
    omega
theorem cells2_append (a b : List Pct.PairL) : cells2 (a ++ b) = cells2 a ++ cells2 b := by simp [cells2]
theorem cells2_one (m : List Pct.PairL) : ∀ u ∈ cells2 m, u.oneCell' = true := by
  intro u hu
  unfold cells2 at hu
  rw [List.mem_flatMap] at hu
  obtain ⟨q, _, h⟩ := hu
  simp at h
  rcases h with rfl | rfl <;> rfl

/-- 'append(dst, src...)' of pairs: dst a row of the call's own, src whatever reads. -/
theorem run_append_pairs (w : World) (ty : TypeId) (base B : Nat) (v v2 : Value) (l m : List Pct.PairL) (hrow : PRow base w v l) (hr : PReads w B v2 m) (hl : l.length + m.length ≤ 1048576) (hbase : base ≤ w.heap.size) :
    ∃ v' w', (Builtin.append_ #[31, 31] ty #[v, v2]).run Tryd.prog w = .ok v' w' ∧ PRow base w' v' (l ++ m) ∧ w.grownBy w' v.ownBlock := by
  obtain ⟨i0, hi0, hz0, hz1, hz2⟩ := info_parts Tryd.infoPair
  obtain ⟨A, c, rfl, hc⟩ := hr
  have hgo : ∀ ad : Addr, A = some ad → (∀ j u, (cells2 m)[j]? = some u → w.cell? (ad.add j) = some u) → ∃ v' w', (Builtin.append_ #[31, 31] ty #[v, .slice A m.length c]).run Tryd.prog w = .ok v' w' ∧ PRow base w' v' (l ++ m) ∧ w.grownBy w' v.ownBlock := by
    rintro ad rfl hcells
    obtain ⟨v', w', hrun, h2, h3, _, _⟩ := run_append_own_at (P := Tryd.prog) w base 31 ty 51 i0 _ 2 32 Tryd.underlying31 hi0 hz0 hz1 hz2 rfl (by omega) v l.length (cells2 l) hrow ad m.length c (cells2 m) (cells2_len m) hcells (cells2_one m) (by unfold maxLen; omega) (by omega) hbase
    refine ⟨v', w', hrun, ?_, h3⟩
    unfold PRow
    rw [List.length_append, cells2_append]
    exact h2
  rcases Nat.eq_zero_or_pos m.length with h0 | h0
  · have hm : m = [] := List.length_eq_zero_iff.1 h0
    subst hm
    rcases A with _ | ad
    · refine ⟨v, w, ?_, by rw [List.append_nil]; exact hrow, World.grownBy.refl w _⟩
      rcases hrow.2 with ⟨rfl, hn⟩ | ⟨g, cap, cur, rfl, _, _, hnc, _⟩
      · simp [Builtin.append_, run_underlying Tryd.underlying31, sizeOf, typeInfo, hi0, Builtin.lenOf, Builtin.firstCells]
      · simp [Builtin.append_, run_underlying Tryd.underlying31, sizeOf, typeInfo, hi0, Builtin.lenOf, Builtin.firstCells, hnc, storeCells]
    · exact hgo ad rfl (fun j u hu => by simp [cells2] at hu)
  · obtain ⟨b, off, rfl, _, hcell⟩ := hc h0
    refine hgo _ rfl (fun j u hu => ?_)
    rw [Addr.add_mid]
    have hj : j < (cells2 m).length := (List.getElem?_eq_some_iff.1 hu).1
    rw [cells2_len] at hj
    have hk : j / 2 < m.length := by omega
    have hcc := hcell (j / 2) hk
    have h2 := cells2_at m (j / 2) hk
    rcases Nat.mod_two_eq_zero_or_one j with he | he
    · have e : j = j / 2 * 2 := by omega
      rw [e] at hu ⊢
      rw [h2.1] at hu
      rw [← hu]
      exact hcc.1
    · have e : j = j / 2 * 2 + 1 := by omega
      rw [e] at hu ⊢
      rw [h2.2] at hu
      rw [← hu, ← Nat.add_assoc]
      exact hcc.2

theorem wpList_append_pairs {w : World} {ops : Array Oper} {rest : List Oper} {o : Oper} {a : Act} {Q : Exit → Act → World → Prop} (hw : Region.wanted o (yielded ops a.tmps) = true) (s x : Operand)
    (ho : o.op = .call { callee := .builtin .append, args := #[s, x], argTypes := #[31, 31] })
    (base B : Nat) (v v2 : Value) (l m : List Pct.PairL) (hs : a.eval s = v) (hx : a.eval x = v2) (hrow : PRow base w v l) (hr : PReads w B v2 m) (hl : l.length + m.length ≤ 1048576) (hbase : base ≤ w.heap.size)
    (h : ∀ v' w', PRow base w' v' (l ++ m) → w.grownBy w' v.ownBlock → wpList Tryd.prog ops Q rest (a.put o.dst v') w') : wpList Tryd.prog ops Q (o :: rest) a w :=
  BigFrame.wpList_want hw fun K hK => by
    obtain ⟨v', w', hrun, h2, h3⟩ := run_append_pairs w o.type base B v v2 l m hrow hr hl hbase
    unfold Oper.wp execOp
    simp only [ho, resolve, invoke, builtin, Sem.run_bind, Sem.run_pure, Result.andThen_ok, List.map_toArray, List.map_cons, List.map_nil, hs, hx, hrun]
    exact hK _ _ (h v' w' h2 h3)

end Go.Proofs.YtbpeohadgplaaaaDoor
