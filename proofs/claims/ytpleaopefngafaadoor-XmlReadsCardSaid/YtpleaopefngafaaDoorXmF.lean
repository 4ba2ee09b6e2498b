/- Elements that a call has made itself: which blocks they lie in, and that they stay as they are where these blocks do. No condition. -/
import Derived.Test.YtpleaopefngafaaDoorXmBa
namespace Go.Proofs.YtpleaopefngafaaDoor
set_option maxRecDepth 8000
open Go.RowKit

def blkOf : Option Addr → List Nat
  | some a => [a.block]
  | none => []
def cells4 : Value → List Value
  | .agg a => a.toList
  | _ => []
mutual
/-- The element n lies as the value v, in the blocks F; its kids in a row of the call's own. -/
def FT (w : World) : Xm.N → Value → List Nat → Prop
  | .mk nm ats tx ks, v, F => ∃ A ca K ck vs G, v = nV nm A ats.length ca tx K ks.length ck ∧ F = blkOf A ++ (blkOf K ++ G) ∧ PCells w w.heap.size A ats ∧ w.ownsRow 0 26 4 (.slice K ks.length ck) ks.length (vs.flatMap cells4) ∧ FTL w ks vs G
def FTL (w : World) : List Xm.N → List Value → List Nat → Prop
  | [], vs, F => vs = [] ∧ F = []
  | n :: ns, vs, F => ∃ v vs' F1 F2, vs = v :: vs' ∧ F = F1 ++ F2 ∧ FT w n v F1 ∧ FTL w ns vs' F2
end
/-- The blocks of F are as they were. -/
def Same (F : List Nat) (w w' : World) : Prop := (∀ g ∈ F, w'.heap[g]? = w.heap[g]?) ∧ w.heap.size ≤ w'.heap.size
theorem Same.left {F G : List Nat} {w w' : World} (h : Same (F ++ G) w w') : Same F w w' := ⟨fun g hg => h.1 g (List.mem_append_left _ hg), h.2⟩
theorem Same.right {F G : List Nat} {w w' : World} (h : Same (F ++ G) w w') : Same G w w' := ⟨fun g hg => h.1 g (List.mem_append_right _ hg), h.2⟩
theorem own_same {w w' : World} {base : Nat} {e : TypeId} {size n c : Nat} {K : Option Addr} {m : Nat} {xs : List Value} (h : w.ownsRow base e size (.slice K m c) n xs) (hs : Same (blkOf K) w w') : w'.ownsRow base e size (.slice K m c) n xs := by
  refine ⟨h.1, ?_⟩
  rcases h.2 with h1 | ⟨g, cap, cur, hv, hb, hg, r⟩
  · exact .inl h1
  · refine .inr ⟨g, cap, cur, hv, hb, ?_, r⟩
    injection hv with hK _ _
    rw [hs.1 g (by rw [hK]; simp [blkOf])]
    exact hg
theorem pcells_same {w w' : World} {A : Option Addr} {l : List Pct.PairL} (h : PCells w w.heap.size A l) (hs : Same (blkOf A) w w') : PCells w' w'.heap.size A l := fun hn => by
  obtain ⟨b, off, rfl, hb, hc⟩ := h hn
  refine ⟨b, off, rfl, Nat.lt_of_lt_of_le hb hs.2, fun k hk => ?_⟩
  have hblk := hs.1 b (by simp [blkOf])
  have := hc k hk
  exact ⟨(World.cell?_of_block hblk).trans this.1, (World.cell?_of_block hblk).trans this.2⟩
mutual
theorem FT.keep {w w' : World} : ∀ (n : Xm.N) (v : Value) (F : List Nat), FT w n v F → Same F w w' → FT w' n v F
  | .mk nm ats tx ks, v, F, h, hs => by
    unfold FT at h ⊢
    obtain ⟨A, ca, K, ck, vs, G, e1, e2, e3, e4, e5⟩ := h
    rw [e2] at hs
    exact ⟨A, ca, K, ck, vs, G, e1, e2, pcells_same e3 hs.left, own_same e4 hs.right.left, FTL.keep ks vs G e5 hs.right.right⟩
theorem FTL.keep {w w' : World} : ∀ (ns : List Xm.N) (vs : List Value) (F : List Nat), FTL w ns vs F → Same F w w' → FTL w' ns vs F
  | [], vs, F, h, _ => by unfold FTL at h ⊢; exact h
  | n :: ns, vs, F, h, hs => by
    unfold FTL at h ⊢
    obtain ⟨v, vs', F1, F2, e1, e2, e3, e4⟩ := h
    rw [e2] at hs
    exact ⟨v, vs', F1, F2, e1, e2, FT.keep n v F1 e3 hs.left, FTL.keep ns vs' F2 e4 hs.right⟩
end
theorem FTL.split {w : World} : ∀ (a b : List Xm.N) (vs : List Value) (F : List Nat), FTL w (a ++ b) vs F → ∃ va vb Fa Fb, vs = va ++ vb ∧ F = Fa ++ Fb ∧ FTL w a va Fa ∧ FTL w b vb Fb
  | [], b, vs, F, h => ⟨[], vs, [], F, rfl, rfl, by unfold FTL; exact ⟨rfl, rfl⟩, h⟩
  | n :: a, b, vs, F, h => by
    rw [List.cons_append] at h
    unfold FTL at h
    obtain ⟨v, vs', F1, F2, e1, e2, e3, e4⟩ := h
    obtain ⟨va, vb, Fa, Fb, f1, f2, f3, f4⟩ := FTL.split a b vs' F2 e4
    refine ⟨v :: va, vb, F1 ++ Fa, Fb, by rw [e1, f1]; rfl, by rw [e2, f2, List.append_assoc], ?_, f4⟩
    unfold FTL
    exact ⟨v, va, F1, Fa, rfl, rfl, e3, f3⟩
theorem FTL.join {w : World} : ∀ (a b : List Xm.N) (va vb : List Value) (Fa Fb : List Nat), FTL w a va Fa → FTL w b vb Fb → FTL w (a ++ b) (va ++ vb) (Fa ++ Fb)
  | [], b, va, vb, Fa, Fb, h1, h2 => by
    unfold FTL at h1
    obtain ⟨rfl, rfl⟩ := h1
    exact h2
  | n :: a, b, va, vb, Fa, Fb, h1, h2 => by
    unfold FTL at h1
    obtain ⟨v, vs', F1, F2, rfl, rfl, e3, e4⟩ := h1
    rw [List.cons_append]
    unfold FTL
    exact ⟨v, vs' ++ vb, F1, F2 ++ Fb, rfl, by rw [List.append_assoc], e3, FTL.join a b vs' vb F2 Fb e4 h2⟩
theorem FTL.one {w : World} {n : Xm.N} {v : Value} {F : List Nat} : FTL w [n] [v] F ↔ FT w n v F := by
  constructor
  · intro h
    unfold FTL at h
    obtain ⟨v', vs', F1, F2, e1, e2, e3, e4⟩ := h
    unfold FTL at e4
    obtain ⟨rfl, rfl⟩ := e4
    injection e1 with e1 _
    subst e1
    rw [e2, List.append_nil]
    exact e3
  · intro h
    unfold FTL
    exact ⟨v, [], F, [], rfl, by rw [List.append_nil], h, by unfold FTL; exact ⟨rfl, rfl⟩⟩
theorem FTL.last {w : World} {a : List Xm.N} {n : Xm.N} {vs : List Value} {F : List Nat} (h : FTL w (a ++ [n]) vs F) : ∃ va v Fa Fn, vs = va ++ [v] ∧ F = Fa ++ Fn ∧ FTL w a va Fa ∧ FT w n v Fn := by
  obtain ⟨va, vb, Fa, Fb, e1, e2, e3, e4⟩ := FTL.split a [n] vs F h
  unfold FTL at e4
  obtain ⟨v, vs', F1, F2, f1, f2, f3, f4⟩ := e4
  unfold FTL at f4
  obtain ⟨rfl, rfl⟩ := f4
  exact ⟨va, v, Fa, F1, by rw [e1, f1], by rw [e2, f2, List.append_nil], e3, f3⟩
theorem FTL.length {w : World} : ∀ (ns : List Xm.N) (vs : List Value) (F : List Nat), FTL w ns vs F → vs.length = ns.length
  | [], vs, F, h => by unfold FTL at h; rw [h.1]; rfl
  | n :: ns, vs, F, h => by
    unfold FTL at h
    obtain ⟨v, vs', F1, F2, rfl, _, _, e4⟩ := h
    rw [List.length_cons, List.length_cons, FTL.length ns vs' F2 e4]
theorem FT.form {w : World} {n : Xm.N} {v : Value} {F : List Nat} (h : FT w n v F) : ∃ A ca K ck vs G, v = nV n.name A n.attrs.length ca n.text K n.kids.length ck ∧ F = blkOf A ++ (blkOf K ++ G) ∧ PCells w w.heap.size A n.attrs ∧ w.ownsRow 0 26 4 (.slice K n.kids.length ck) n.kids.length (vs.flatMap cells4) ∧ FTL w n.kids vs G := by
  cases n with
  | mk nm ats tx ks => unfold FT at h; exact h
theorem flat4_get : ∀ (vs : List Value) (i : Nat) (hi : i < vs.length) (c0 c1 c2 c3 : Value), (∀ v ∈ vs, (cells4 v).length = 4) → vs[i] = .agg #[c0, c1, c2, c3] → (vs.flatMap cells4)[i * 4]? = some c0 ∧ (vs.flatMap cells4)[i * 4 + 1]? = some c1 ∧ (vs.flatMap cells4)[i * 4 + 2]? = some c2 ∧ (vs.flatMap cells4)[i * 4 + 3]? = some c3
  | v :: vs, 0, _, c0, c1, c2, c3, _, h => by
    have h' : v = .agg #[c0, c1, c2, c3] := h
    subst h'
    rw [List.flatMap_cons]
    exact ⟨rfl, rfl, rfl, rfl⟩
  | v :: vs, i + 1, hi, c0, c1, c2, c3, hall, h => by
    have hv := hall v (by simp)
    have ih := flat4_get vs i (by simpa using hi) c0 c1 c2 c3 (fun x hx => hall x (by simp [hx])) (by simpa using h)
    rw [List.flatMap_cons]
    refine ⟨?_, ?_, ?_, ?_⟩
    · rw [List.getElem?_append_right (by omega), hv, show (i + 1) * 4 - 4 = i * 4 by omega]; exact ih.1
    · rw [List.getElem?_append_right (by omega), hv, show (i + 1) * 4 + 1 - 4 = i * 4 + 1 by omega]; exact ih.2.1
    · rw [List.getElem?_append_right (by omega), hv, show (i + 1) * 4 + 2 - 4 = i * 4 + 2 by omega]; exact ih.2.2.1
    · rw [List.getElem?_append_right (by omega), hv, show (i + 1) * 4 + 3 - 4 = i * 4 + 3 by omega]; exact ih.2.2.2
theorem FTL.four {w : World} : ∀ (ns : List Xm.N) (vs : List Value) (F : List Nat), FTL w ns vs F → ∀ v ∈ vs, (cells4 v).length = 4
  | [], vs, F, h => by unfold FTL at h; rw [h.1]; intro v hv; cases hv
  | n :: ns, vs, F, h => by
    unfold FTL at h
    obtain ⟨v, vs', F1, F2, rfl, _, e3, e4⟩ := h
    obtain ⟨A, ca, K, ck, _, _, hv, _⟩ := e3.form
    intro x hx
    rcases List.mem_cons.1 hx with rfl | hx
    · rw [hv]; rfl
    · exact FTL.four ns vs' F2 e4 x hx
mutual
theorem FT.tr {w : World} : ∀ (n : Xm.N) (v : Value) (F : List Nat), FT w n v F → Tr w w.heap.size n v
  | .mk nm ats tx ks, v, F, h => by
    unfold FT at h
    obtain ⟨A, ca, K, ck, vs, G, e1, e2, e3, e4, e5⟩ := h
    unfold Tr
    refine ⟨A, ca, K, ck, e1, e3, fun hn => ?_⟩
    obtain ⟨g, cap, hv, _, hlt⟩ := World.ownsRow.form e4 hn
    injection hv with hK _ _
    have hcells := e4.cells (g := g) (by rw [hK]; rfl)
    refine ⟨g, 0, hK, hlt, FTL.trL ks vs G 0 e5 (fun j u hu => ?_)⟩
    have := hcells (0 * 4 + j) u (by rw [Nat.zero_mul, Nat.zero_add]; exact hu)
    rw [Addr.add_mid] at this
    exact this
theorem FTL.trL {w : World} {g : Nat} : ∀ (ns : List Xm.N) (vs : List Value) (F : List Nat) (k : Nat), FTL w ns vs F → (∀ j u, (vs.flatMap cells4)[j]? = some u → w.cell? ⟨g, 0 + (k * 4 + j), none⟩ = some u) → TrL w w.heap.size g 0 k ns
  | [], vs, F, k, _, _ => by unfold TrL; trivial
  | n :: ns, vs, F, k, h, hc => by
    unfold FTL at h
    obtain ⟨v, vs', F1, F2, rfl, _, e3, e4⟩ := h
    have ht := FT.tr n v F1 e3
    obtain ⟨A, ca, K, ck, _, _, hv, _⟩ := e3.form
    unfold TrL
    rw [List.flatMap_cons] at hc
    have h4 : cells4 v = [.string (S n.name), .slice A n.attrs.length ca, .string (S n.text), .slice K n.kids.length ck] := by rw [hv]; rfl
    rw [h4] at hc
    have hv' : v = .agg #[.string (S n.name), .slice A n.attrs.length ca, .string (S n.text), .slice K n.kids.length ck] := hv
    refine ⟨⟨_, _, _, _, ?_, ?_, ?_, ?_, hv' ▸ ht⟩, FTL.trL ns vs' F2 (k + 1) e4 (fun j u hu => ?_)⟩
    · exact hc 0 _ rfl
    · exact hc 1 _ rfl
    · exact hc 2 _ rfl
    · exact hc 3 _ rfl
    · have := hc (4 + j) u (by rw [List.getElem?_append_right (by simp)]; simpa using hu)
      rw [show (k + 1) * 4 + j = k * 4 + (4 + j) by omega]
      exact this
end
end Go.Proofs.YtpleaopefngafaaDoor
