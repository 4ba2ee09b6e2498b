/- The open elements of guess of package xml: how they lie, and what attaching one does. No condition. -/
import Derived.Test.YtpleaopefngafaaDoorXmF
import Derived.Test.YtpleaopefngafaaDoorXmGw
import Derived.WalkSmall
namespace Go.Proofs.YtpleaopefngafaaDoor
set_option maxRecDepth 8000
open Go.RowKit

namespace Xm
theorem sizeL_app : ∀ (a b : List N), sizeL (a ++ b) = sizeL a + sizeL b
  | [], b => by rw [List.nil_append]; unfold sizeL; simp
  | k :: a, b => by
    rw [List.cons_append]
    show size k + sizeL (a ++ b) = (size k + sizeL a) + sizeL b
    rw [sizeL_app a b]
    omega
theorem size_pos (n : N) : 0 < size n := by cases n; unfold size; omega
theorem sizeL_len : ∀ (a : List N), a.length ≤ sizeL a
  | [] => Nat.zero_le _
  | k :: a => by
    have := sizeL_len a
    have := size_pos k
    show a.length + 1 ≤ size k + sizeL a
    omega
theorem size_addKid (p t : N) : size (addKid p t) = size p + size t := by
  cases p with
  | mk nm ats tx ks =>
    show sizeL (ks ++ [t]) + 1 = (sizeL ks + 1) + size t
    rw [sizeL_app]
    show sizeL ks + (size t + 0) + 1 = _
    omega
theorem kids_size (p : N) : p.kids.length < size p := by
  cases p with
  | mk nm ats tx ks =>
    have := sizeL_len ks
    unfold size
    show ks.length < _
    omega
end Xm

theorem Same.refl (F : List Nat) (w : World) : Same F w w := ⟨fun _ _ => rfl, Nat.le_refl _⟩
theorem Same.trans {F : List Nat} {a b c : World} (h : Same F a b) (h' : Same F b c) : Same F a c := ⟨fun g hg => (h'.1 g hg).trans (h.1 g hg), Nat.le_trans h.2 h'.2⟩
theorem Same.below {F : List Nat} {w w' : World} (h : Below w.heap.size w w') (hF : ∀ b ∈ F, b < w.heap.size) : Same F w w' := ⟨fun g hg => h.block g (hF g hg), h.size⟩
theorem Same.set {F : List Nat} {w : World} {g i : Nat} (h : g ∉ F) (u : Value) : Same F w (w.setCell ⟨g, i, none⟩ u) := ⟨fun b hb => Below.heap_setCell w ⟨g, i, none⟩ u b (fun e => by have e' : b = g := e; rw [e'] at hb; exact h hb), by simp⟩
theorem Same.grown {F : List Nat} {w w' : World} {row : Option Nat} (h : w.grownBy w' row) (hF : ∀ b ∈ F, b < w.heap.size) (hr : ∀ b ∈ F, row ≠ some b) : Same F w w' := ⟨fun b hb => h.block b (hF b hb) (fun e => hr b hb e.symm), h.size⟩
theorem Same.alloc {F : List Nat} {w : World} (o : Obj) (hF : ∀ b ∈ F, b < w.heap.size) : Same F w (w.alloc o) := ⟨fun b hb => Below.heap_alloc w o b (hF b hb), by simp⟩

def zs : Value := .string ⟨#[]⟩
def z0 : Value := .slice none 0 0
/-- How the open elements lie (the last one first in rs): their row, and the blocks F of all below them. -/
structure GS (g3 : Nat) (rs : List Xm.N) (O : Option Addr) (cap : Nat) (vs : List Value) (F : List Nat) (wr : World) : Prop where
  row : wr.ownsRow (g3 + 1) 26 4 (.slice O rs.length cap) rs.length (vs.flatMap cells4)
  ft : FTL wr rs.reverse vs F
  nd : (blkOf O ++ F).Nodup
  lo : ∀ b ∈ F, g3 < b ∧ b < wr.heap.size
section
variable {g3 : Nat} {rs : List Xm.N} {O : Option Addr} {cap : Nat} {vs : List Value} {F : List Nat} {w w' : World}
theorem GS.next (h : GS g3 rs O cap vs F w) (hb : Below w.heap.size w w') : GS g3 rs O cap vs F w' :=
  ⟨own_below h.row hb, FTL.keep _ _ _ h.ft (Same.below hb (fun b hb => (h.lo b hb).2)), h.nd, fun b hb' => ⟨(h.lo b hb').1, Nat.lt_of_lt_of_le (h.lo b hb').2 hb.size⟩⟩
theorem GS.set (h : GS g3 rs O cap vs F w) {g i : Nat} (hg : g ≤ g3) (u : Value) : GS g3 rs O cap vs F (w.setCell ⟨g, i, none⟩ u) :=
  ⟨own_set_ne h.row (fun e => by have := (World.ownsRow.lt h.row g e).1; omega) u, FTL.keep _ _ _ h.ft (Same.set (fun hm => by have := (h.lo g hm).1; omega) u), h.nd, fun b hb' => ⟨(h.lo b hb').1, by rw [show (w.setCell ⟨g, i, none⟩ u).heap.size = w.heap.size by simp]; exact (h.lo b hb').2⟩⟩
theorem GS.len (h : GS g3 rs O cap vs F w) : vs.length = rs.length := by rw [FTL.length _ _ _ h.ft, List.length_reverse]
theorem GS.four (h : GS g3 rs O cap vs F w) : ∀ v ∈ vs, (cells4 v).length = 4 := FTL.four _ _ _ h.ft
theorem GS.lt (h : GS g3 rs O cap vs F w) : ∀ b ∈ blkOf O ++ F, g3 < b ∧ b < w.heap.size := by
  intro b hb
  rcases List.mem_append.1 hb with hb | hb
  · cases O with
    | none => simp [blkOf] at hb
    | some a =>
      simp only [blkOf, List.mem_singleton] at hb
      have := World.ownsRow.lt h.row a.block rfl
      rw [hb]
      omega
  · exact h.lo b hb
/-- The world of an append of one element to the open ones: the row grows, the elements stay. -/
theorem GS.push (h : GS g3 rs O cap vs F w) {n : Xm.N} {v : Value} {Fn : List Nat} (hn : FT w n v Fn) (hlo : ∀ b ∈ Fn, g3 < b ∧ b < w.heap.size) (hnd : (blkOf O ++ (F ++ Fn)).Nodup) {gg cap2 : Nat}
    (hrow : w'.ownsRow (g3 + 1) 26 4 (.slice (some ⟨gg, 0, none⟩) (rs.length + 1) cap2) (rs.length + 1) (vs.flatMap cells4 ++ cells4 v))
    (hgrow : w.grownBy w' (Value.slice O rs.length cap).ownBlock) (hat : (Value.slice O rs.length cap).ownBlock = some gg ∨ gg = w.heap.size) : GS g3 (n :: rs) (some ⟨gg, 0, none⟩) cap2 (vs ++ [v]) (F ++ Fn) w' := by
  have hall : ∀ b ∈ F ++ Fn, g3 < b ∧ b < w.heap.size := by
    intro b hb
    rcases List.mem_append.1 hb with hb | hb
    · exact h.lo b hb
    · exact hlo b hb
  have hne : ∀ b ∈ F ++ Fn, (Value.slice O rs.length cap).ownBlock ≠ some b := by
    intro b hb e
    cases O with
    | none => simp [Value.ownBlock] at e
    | some a =>
      simp only [Value.ownBlock, Option.some.injEq] at e
      have := List.nodup_append.1 hnd
      exact this.2.2 a.block (by simp [blkOf]) b hb e
  have hs := Same.grown hgrow (fun b hb => (hall b hb).2) hne
  refine ⟨?_, ?_, ?_, fun b hb => ⟨(hall b hb).1, Nat.lt_of_lt_of_le (hall b hb).2 hgrow.size⟩⟩
  · have e : (vs ++ [v]).flatMap cells4 = vs.flatMap cells4 ++ cells4 v := by simp
    rw [e]
    exact hrow
  · rw [List.reverse_cons]
    exact FTL.join _ _ _ _ _ _ (FTL.keep _ _ _ h.ft hs.left) (FTL.one.2 (FT.keep _ _ _ hn hs.right))
  · rcases hat with e | e
    · cases O with
      | none => simp [Value.ownBlock] at e
      | some a =>
        simp only [Value.ownBlock, Option.some.injEq] at e
        simp only [blkOf] at hnd ⊢
        rw [← e]
        exact hnd
    · show ([gg] ++ (F ++ Fn)).Nodup
      rw [List.singleton_append, List.nodup_cons]
      exact ⟨fun hm => by have := (hall gg hm).2; omega, (List.nodup_append.1 hnd).2.1⟩
end
theorem flat4_len : ∀ (va : List Value), (∀ v ∈ va, (cells4 v).length = 4) → (va.flatMap cells4).length = va.length * 4
  | [], _ => rfl
  | v :: va, h => by
    rw [List.flatMap_cons, List.length_append, h v (by simp), flat4_len va (fun x hx => h x (by simp [hx])), List.length_cons]
    omega
theorem nodup_fresh {L M : List Nat} {H : Nat} (h : L.Nodup) (hm : M.Nodup) (hl : ∀ b ∈ L, b < H) (hh : ∀ b ∈ M, H ≤ b) : (L ++ M).Nodup := by
  refine List.nodup_append.2 ⟨h, hm, fun a ha b hb e => ?_⟩
  have := hl a ha
  have := hh b hb
  omega
theorem own_cap {w : World} {base : Nat} {e : TypeId} {size n c : Nat} {a : Addr} {m : Nat} {xs : List Value} (h : w.ownsRow base e size (.slice (some a) m c) n xs) : n ≤ c ∧ c ≤ maxLen := by
  rcases h.2 with ⟨h', _⟩ | ⟨g, cap, cur, h', _, _, h1, h2, _⟩
  · cases h'
  · cases h'
    exact ⟨h1, h2⟩
theorem set_flat (va : List Value) (hv : ∀ v ∈ va, (cells4 v).length = 4) (c0 c1 c2 c3 u : Value) (tl : List Value) (i : Nat) (hi : i = va.length * 4 + 3) :
    ((va ++ [Value.agg #[c0, c1, c2, c3]]).flatMap cells4 ++ tl).set i u = (va ++ [Value.agg #[c0, c1, c2, u]]).flatMap cells4 ++ tl := by
  have e := flat4_len va hv
  have h1 : [Value.agg #[c0, c1, c2, c3]].flatMap cells4 = [c0, c1, c2, c3] := rfl
  have h2 : [Value.agg #[c0, c1, c2, u]].flatMap cells4 = [c0, c1, c2, u] := rfl
  rw [List.flatMap_append, List.flatMap_append, h1, h2, List.append_assoc, List.append_assoc, List.set_append_right _ _ (by omega), hi, e, show va.length * 4 + 3 - va.length * 4 = 3 by omega]
  rfl
theorem own_put4 {w : World} {base g n cap : Nat} {e : TypeId} {L : List Value} {a b c d : Value} (hL : L.length = n * 4)
    (h : w.ownsRow base e 4 (.slice (some ⟨g, 0, none⟩) (n + 1) cap) (n + 1) (L ++ [a, b, c, d])) (v0 v1 v2 v3 : Value) :
    w.cell? ⟨g, n * 4, none⟩ = some a ∧ w.frozen? ⟨g, n * 4, none⟩ = false ∧
    (w.setCell ⟨g, n * 4, none⟩ v0).cell? ⟨g, n * 4 + 1, none⟩ = some b ∧ (w.setCell ⟨g, n * 4, none⟩ v0).frozen? ⟨g, n * 4 + 1, none⟩ = false ∧
    ((w.setCell ⟨g, n * 4, none⟩ v0).setCell ⟨g, n * 4 + 1, none⟩ v1).cell? ⟨g, n * 4 + 2, none⟩ = some c ∧ ((w.setCell ⟨g, n * 4, none⟩ v0).setCell ⟨g, n * 4 + 1, none⟩ v1).frozen? ⟨g, n * 4 + 2, none⟩ = false ∧
    (((w.setCell ⟨g, n * 4, none⟩ v0).setCell ⟨g, n * 4 + 1, none⟩ v1).setCell ⟨g, n * 4 + 2, none⟩ v2).cell? ⟨g, n * 4 + 3, none⟩ = some d ∧ (((w.setCell ⟨g, n * 4, none⟩ v0).setCell ⟨g, n * 4 + 1, none⟩ v1).setCell ⟨g, n * 4 + 2, none⟩ v2).frozen? ⟨g, n * 4 + 3, none⟩ = false ∧
    ((((w.setCell ⟨g, n * 4, none⟩ v0).setCell ⟨g, n * 4 + 1, none⟩ v1).setCell ⟨g, n * 4 + 2, none⟩ v2).setCell ⟨g, n * 4 + 3, none⟩ v3).ownsRow base e 4 (.slice (some ⟨g, 0, none⟩) (n + 1) cap) (n + 1) (L ++ [v0, v1, v2, v3]) := by
  have st : ∀ (i : Nat) (x y : List Value) (u : Value), y = x.set i u → (L ++ x).set (n * 4 + i) u = L ++ y := by
    intro i x y u e
    rw [List.set_append_right _ _ (by omega), hL, show n * 4 + i - n * 4 = i by omega, e]
  have gt : ∀ (i : Nat) (x : List Value), (L ++ x)[n * 4 + i]? = x[i]? := by
    intro i x
    rw [List.getElem?_append_right (by omega), hL, show n * 4 + i - n * 4 = i by omega]
  have h1 := (World.ownsRow.stored h (n * 4 + 0) v0).1
  rw [st 0 _ [v0, b, c, d] v0 rfl] at h1
  have h2 := (World.ownsRow.stored h1 (n * 4 + 1) v1).1
  rw [st 1 _ [v0, v1, c, d] v1 rfl] at h2
  have h3 := (World.ownsRow.stored h2 (n * 4 + 2) v2).1
  rw [st 2 _ [v0, v1, v2, d] v2 rfl] at h3
  have h4 := (World.ownsRow.stored h3 (n * 4 + 3) v3).1
  rw [st 3 _ [v0, v1, v2, v3] v3 rfl] at h4
  exact ⟨(h.cellAt (n * 4 + 0) (by omega)).trans (gt 0 _), h.frozenAt _, (h1.cellAt (n * 4 + 1) (by omega)).trans (gt 1 _), h1.frozenAt _, (h2.cellAt (n * 4 + 2) (by omega)).trans (gt 2 _), h2.frozenAt _, (h3.cellAt (n * 4 + 3) (by omega)).trans (gt 3 _), h3.frozenAt _, h4⟩
/-- The two last open elements, and how they lie. -/
theorem GS.top2 {g3 : Nat} {rs : List Xm.N} {t p : Xm.N} {O : Option Addr} {cap : Nat} {vs : List Value} {F : List Nat} {w : World} (h : GS g3 (t :: p :: rs) O cap vs F w) :
    ∃ gO va Fa A ca K ck vsp Gp tv Ft, O = some ⟨gO, 0, none⟩ ∧ g3 < gO ∧ gO < w.heap.size ∧ va.length = rs.length ∧ vs = va ++ [nV p.name A p.attrs.length ca p.text K p.kids.length ck] ++ [tv] ∧ F = Fa ++ (blkOf A ++ (blkOf K ++ Gp)) ++ Ft ∧
      PCells w w.heap.size A p.attrs ∧ w.ownsRow 0 26 4 (.slice K p.kids.length ck) p.kids.length (vsp.flatMap cells4) ∧ FTL w p.kids vsp Gp ∧ FT w t tv Ft ∧ FTL w rs.reverse va Fa := by
  obtain ⟨gO, c, hO, hg, hlt⟩ := World.ownsRow.form h.row (by simp)
  injection hO with hO _ _
  have hf := h.ft
  rw [List.reverse_cons] at hf
  obtain ⟨v1, tv, F1, Ft, e1, e2, f1, f2⟩ := FTL.last hf
  rw [List.reverse_cons] at f1
  obtain ⟨va, pv, Fa, Fp, e3, e4, f3, f4⟩ := FTL.last f1
  obtain ⟨A, ca, K, ck, vsp, Gp, q1, q2, q3, q4, q5⟩ := f4.form
  refine ⟨gO, va, Fa, A, ca, K, ck, vsp, Gp, tv, Ft, hO, by omega, hlt, ?_, ?_, ?_, q3, q4, q5, f2, f3⟩
  · rw [FTL.length _ _ _ f3, List.length_reverse]
  · rw [e1, e3, q1]
  · rw [e2, e4, q2]
/-- What attaching makes of the open elements. -/
theorem GS.attach {g3 : Nat} {rs : List Xm.N} {t p : Xm.N} {gO cap : Nat} {F : List Nat} {w wf : World} {va : List Value} {Fa : List Nat} {A : Option Addr} {ca : Nat} {K : Option Addr} {ck : Nat} {vsp : List Value} {Gp : List Nat} {tv : Value} {Ft : List Nat} {vs : List Value}
    (h : GS g3 (t :: p :: rs) (some ⟨gO, 0, none⟩) cap vs F w) (hF : F = Fa ++ (blkOf A ++ (blkOf K ++ Gp)) ++ Ft) (hva : va.length = rs.length)
    (hA : PCells w w.heap.size A p.attrs) (hG : FTL w p.kids vsp Gp) (ht : FT w t tv Ft) (ha : FTL w rs.reverse va Fa) {gk ck' : Nat}
    (hk : (Value.slice K p.kids.length ck).ownBlock = some gk ∨ w.heap.size ≤ gk) (hkl : gk < wf.heap.size)
    (hrow : wf.ownsRow 0 26 4 (.slice (some ⟨gk, 0, none⟩) (p.kids.length + 1) ck') (p.kids.length + 1) (vsp.flatMap cells4 ++ cells4 tv))
    (hs : ∀ b, b < w.heap.size → b ≠ gO → (Value.slice K p.kids.length ck).ownBlock ≠ some b → wf.heap[b]? = w.heap[b]?) (hsz : w.heap.size ≤ wf.heap.size)
    (hown : wf.ownsRow (g3 + 1) 26 4 (.slice (some ⟨gO, 0, none⟩) (rs.length + 1 + 1) cap) (rs.length + 1 + 1) ((va ++ [nV p.name A p.attrs.length ca p.text (some ⟨gk, 0, none⟩) (p.kids.length + 1) ck']).flatMap cells4 ++ cells4 tv)) :
    GS g3 (Xm.addKid p t :: rs) (some ⟨gO, 0, none⟩) cap (va ++ [nV p.name A p.attrs.length ca p.text (some ⟨gk, 0, none⟩) (p.kids.length + 1) ck']) (Fa ++ (blkOf A ++ ([gk] ++ (Gp ++ Ft)))) wf := by
  have hlt := h.lt
  have hnd := h.nd
  subst hF
  have hkb : ∀ b, (Value.slice K p.kids.length ck).ownBlock = some b ↔ b ∈ blkOf K := by
    intro b
    cases K with
    | none => simp [Value.ownBlock, blkOf]
    | some a => simp only [Value.ownBlock, blkOf, Option.some.injEq, List.mem_singleton]; exact eq_comm
  have hbO : blkOf (some ⟨gO, 0, none⟩) = [gO] := rfl
  rw [hbO] at hnd hlt
  simp only [List.singleton_append, List.nodup_cons, List.mem_append, List.mem_cons, not_or] at hnd hlt
  obtain ⟨hO, hnd⟩ := hnd
  rw [List.append_assoc, List.append_assoc, List.append_assoc] at hnd
  have n1 := List.nodup_append.1 hnd
  have n2 := List.nodup_append.1 n1.2.1
  have n3 := List.nodup_append.1 n2.2.1
  have n4 := List.nodup_append.1 n3.2.1
  have same : ∀ L : List Nat, (∀ b ∈ L, b ∈ Fa ∨ b ∈ blkOf A ∨ b ∈ Gp ∨ b ∈ Ft) → (∀ b ∈ L, b ∉ blkOf K) → Same L w wf := by
    intro L hL hK
    refine ⟨fun b hb => hs b ?_ ?_ (fun e => hK b hb ((hkb b).1 e)), hsz⟩
    · rcases hL b hb with x | x | x | x
      · exact (hlt b (.inr (.inl (.inl x)))).2
      · exact (hlt b (.inr (.inl (.inr (.inl x))))).2
      · exact (hlt b (.inr (.inl (.inr (.inr (.inr x)))))).2
      · exact (hlt b (.inr (.inr x))).2
    · rintro rfl
      rcases hL b hb with x | x | x | x
      · exact hO.1.1 x
      · exact hO.1.2.1 x
      · exact hO.1.2.2.2 x
      · exact hO.2 x
  have s1 := same Fa (fun b hb => .inl hb) (fun b hb hK => n1.2.2 b hb b (by simp [hK]) rfl)
  have s2 := same (blkOf A) (fun b hb => .inr (.inl hb)) (fun b hb hK => n2.2.2 b hb b (by simp [hK]) rfl)
  have s3 := same Gp (fun b hb => .inr (.inr (.inl hb))) (fun b hb hK => n3.2.2 b hK b (by simp [hb]) rfl)
  have s4 := same Ft (fun b hb => .inr (.inr (.inr hb))) (fun b hb hK => n3.2.2 b hK b (by simp [hb]) rfl)
  have hkg : g3 < gk ∧ gk ≠ gO ∧ gk ∉ Fa ∧ gk ∉ blkOf A ∧ gk ∉ Gp ∧ gk ∉ Ft := by
    rcases hk with e | e
    · have hm := (hkb gk).1 e
      exact ⟨(hlt gk (.inr (.inl (.inr (.inr (.inl hm)))))).1, fun e => hO.1.2.2.1 (e ▸ hm), fun x => n1.2.2 gk x gk (by simp [hm]) rfl, fun x => n2.2.2 gk x gk (by simp [hm]) rfl, fun x => n3.2.2 gk hm gk (by simp [x]) rfl, fun x => n3.2.2 gk hm gk (by simp [x]) rfl⟩
    · have hgO := hlt gO (.inl rfl)
      exact ⟨by omega, by omega, fun x => by have := (hlt gk (.inr (.inl (.inl x)))).2; omega, fun x => by have := (hlt gk (.inr (.inl (.inr (.inl x))))).2; omega, fun x => by have := (hlt gk (.inr (.inl (.inr (.inr (.inr x)))))).2; omega, fun x => by have := (hlt gk (.inr (.inr x))).2; omega⟩
  obtain ⟨k1, k2, k3, k4, k5, k6⟩ := hkg
  refine ⟨?_, ?_, ?_, ?_⟩
  · have := ownsRow_pop (n := rs.length + 1) (last := cells4 tv) ?_ hown
    · exact this
    · rw [List.flatMap_append]
      have e : ∀ v ∈ va, (cells4 v).length = 4 := FTL.four _ _ _ ha
      have el : (va.flatMap cells4).length = va.length * 4 := by
        exact flat4_len va e
      rw [List.length_append, el, hva]
      show rs.length * 4 + 4 = _
      omega
  · rw [List.reverse_cons]
    refine FTL.join _ _ _ _ _ _ (FTL.keep _ _ _ ha s1) (FTL.one.2 ?_)
    cases p with
    | mk nm ats tx ks =>
      show FT wf (.mk nm ats tx (ks ++ [t])) _ _
      unfold FT
      have hl : (ks ++ [t]).length = ks.length + 1 := by simp
      refine ⟨A, ca, some ⟨gk, 0, none⟩, ck', vsp ++ [tv], Gp ++ Ft, ?_, rfl, pcells_same hA s2, ?_, FTL.join _ _ _ _ _ _ (FTL.keep _ _ _ hG s3) (FTL.one.2 (FT.keep _ _ _ ht s4))⟩
      · rw [hl]; rfl
      · rw [hl, List.flatMap_append, show [tv].flatMap cells4 = cells4 tv by simp]
        exact hrow
  · rw [hbO]
    simp only [List.singleton_append, List.nodup_cons, List.mem_append, List.mem_cons, not_or]
    refine ⟨⟨hO.1.1, hO.1.2.1, fun e => k2 e.symm, hO.1.2.2.2, hO.2⟩, List.nodup_append.2 ⟨n1.1, List.nodup_append.2 ⟨n2.1, List.nodup_cons.2 ⟨?_, n4.2.1 |> fun _ => n3.2.1⟩, ?_⟩, ?_⟩⟩
    · rw [List.mem_append, not_or]; exact ⟨k5, k6⟩
    · intro a ha' b hb e
      subst e
      rcases List.mem_cons.1 hb with e | hb
      · exact k4 (e ▸ ha')
      · exact n2.2.2 a ha' a (by rcases List.mem_append.1 hb with x | x <;> simp [x]) rfl
    · intro a ha' b hb e
      subst e
      rcases List.mem_append.1 hb with hb | hb
      · exact n1.2.2 a ha' a (by simp [hb]) rfl
      · rcases List.mem_cons.1 hb with e | hb
        · exact k3 (e ▸ ha')
        · exact n1.2.2 a ha' a (by rcases List.mem_append.1 hb with x | x <;> simp [x]) rfl
  · intro b hb
    simp only [List.singleton_append, List.mem_append, List.mem_cons] at hb
    rcases hb with x | x | rfl | x | x
    · have := hlt b (.inr (.inl (.inl x))); exact ⟨this.1, by omega⟩
    · have := hlt b (.inr (.inl (.inr (.inl x)))); exact ⟨this.1, by omega⟩
    · exact ⟨k1, hkl⟩
    · have := hlt b (.inr (.inl (.inr (.inr (.inr x))))); exact ⟨this.1, by omega⟩
    · have := hlt b (.inr (.inr x)); exact ⟨this.1, by omega⟩
theorem tr_zero (w : World) (bd : Nat) : Tr w bd Xm.zero (nV [] none 0 0 [] none 0 0) := by
  unfold Xm.zero Tr
  exact ⟨none, 0, none, 0, rfl, fun h => absurd h (by simp), fun h => absurd h (by simp)⟩
theorem ft_zero (w : World) : FT w Xm.zero (.agg #[.string ⟨#[]⟩, .slice none 0 0, .string ⟨#[]⟩, .slice none 0 0]) [] := by
  unfold Xm.zero FT
  exact ⟨none, 0, none, 0, [], [], rfl, rfl, fun h => absurd h (by simp), World.ownsRow_nil _ _ _ _, by unfold FTL; exact ⟨rfl, rfl⟩⟩
end Go.Proofs.YtpleaopefngafaaDoor
