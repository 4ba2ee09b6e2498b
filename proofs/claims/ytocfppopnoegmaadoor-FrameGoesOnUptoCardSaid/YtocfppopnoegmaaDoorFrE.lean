/- Lists of bytes that a call makes, as they lie; the document's Scan of package frame. -/
import Derived.Test.YtocfppopnoegmaaDoorFrD
namespace Go.Proofs.YtocfppopnoegmaaDoor
set_option maxRecDepth 8000
open Go.RowKit

theorem Tryd.infoBytes : (Tryd.prog.info? 22).map (fun i => (i.zero, i.size, i.bytes)) = some (some (.slice none 0 0), 1, 24) := by kernel_rfl
def blkOf : Option Addr → List Nat
  | some a => [a.block]
  | none => []
/-- A row of the call's own that holds slices of the bytes of l, each in a block of its own. -/
structure LRow (base : Nat) (w : World) (A : Option Addr) (n c : Nat) (l : List (List UInt8)) (cs : List Value) : Prop where
  len : n = l.length
  row : w.ownsRow base 22 1 (.slice A n c) n cs
  el : ∀ k (h : k < l.length), ∃ Ak ck, cs[k]? = some (.slice Ak l[k].length ck) ∧ BCells w w.heap.size Ak l[k] ∧ ∀ b ∈ blkOf Ak, base ≤ b ∧ b < w.heap.size ∧ b ∉ blkOf A
section
variable {base : Nat} {w w' : World} {A : Option Addr} {n c : Nat} {l : List (List UInt8)} {cs : List Value}
theorem LRow.nil (base : Nat) (w : World) : LRow base w none 0 0 [] [] := ⟨rfl, World.ownsRow_nil _ _ _ _, fun k h => absurd h (by simp)⟩
theorem cells_block {w w' : World} {A : Option Addr} {l : List UInt8} (h : BCells w w.heap.size A l) (hs : ∀ b ∈ blkOf A, w'.heap[b]? = w.heap[b]?) (hz : w.heap.size ≤ w'.heap.size) : BCells w' w'.heap.size A l := fun hn => by
  obtain ⟨b, off, rfl, hlt, hc⟩ := h hn
  exact ⟨b, off, rfl, Nat.lt_of_lt_of_le hlt hz, fun k hk => (World.cell?_of_block (hs b (by simp [blkOf]))).trans (hc k hk)⟩
theorem LRow.next (h : LRow base w A n c l cs) (hb : Below w.heap.size w w') : LRow base w' A n c l cs :=
  ⟨h.len, own_below h.row hb, fun k hk => by
    obtain ⟨Ak, ck, e1, e2, e3⟩ := h.el k hk
    exact ⟨Ak, ck, e1, e2.next hb, fun b hb' => ⟨(e3 b hb').1, Nat.lt_of_lt_of_le (e3 b hb').2.1 hb.size, (e3 b hb').2.2⟩⟩⟩
theorem LRow.push (h : LRow base w A n c l cs) {x : List UInt8} {Ax : Option Addr} {cx m : Nat} (hm : m = x.length) (hx : BCells w w.heap.size Ax x) (hlo : ∀ b ∈ blkOf Ax, base ≤ b ∧ b < w.heap.size ∧ b ∉ blkOf A) {gg cap : Nat}
    (hrow : w'.ownsRow base 22 1 (.slice (some ⟨gg, 0, none⟩) (n + 1) cap) (n + 1) (cs ++ [.slice Ax m cx]))
    (hgrow : w.grownBy w' (Value.slice A n c).ownBlock) (hat : (Value.slice A n c).ownBlock = some gg ∨ gg = w.heap.size) : LRow base w' (some ⟨gg, 0, none⟩) (n + 1) cap (l ++ [x]) (cs ++ [.slice Ax m cx]) := by
  subst hm
  have hKo : ∀ b, (Value.slice A n c).ownBlock = some b → b ∈ blkOf A := by
    intro b hb
    cases A with
    | none => simp [Value.ownBlock] at hb
    | some a =>
      simp only [Value.ownBlock, Option.some.injEq] at hb
      simp [blkOf, hb]
  have hkeep : ∀ b, b < w.heap.size → b ∉ blkOf A → w'.heap[b]? = w.heap[b]? := fun b hb hn => hgrow.block b hb (fun e => hn (hKo b e.symm))
  have hfar : ∀ b, b < w.heap.size → b ∉ blkOf A → b ∉ blkOf (some (⟨gg, 0, none⟩ : Addr)) := by
    intro b hb hn hm
    simp only [blkOf, List.mem_singleton] at hm
    rcases hat with e | e
    · exact hn (hm ▸ hKo gg e)
    · omega
  have hcl : cs.length = l.length := by
    have h1 := h.row.1
    rw [Nat.mul_one] at h1
    rw [h1, h.len]
  refine ⟨by rw [List.length_append, h.len]; rfl, hrow, fun k hk => ?_⟩
  by_cases hkl : k < l.length
  · obtain ⟨Ak, ck, e1, e2, e3⟩ := h.el k hkl
    refine ⟨Ak, ck, ?_, ?_, fun b hb => ⟨(e3 b hb).1, Nat.lt_of_lt_of_le (e3 b hb).2.1 hgrow.size, hfar b (e3 b hb).2.1 (e3 b hb).2.2⟩⟩
    · rw [List.getElem?_append_left (by omega), e1]
      rw [List.getElem_append_left hkl]
    · rw [List.getElem_append_left hkl]
      exact cells_block e2 (fun b hb => hkeep b (e3 b hb).2.1 (e3 b hb).2.2) hgrow.size
  · have hk' : k = l.length := by rw [List.length_append] at hk; simp at hk; omega
    subst hk'
    refine ⟨Ax, cx, ?_, ?_, fun b hb => ⟨(hlo b hb).1, Nat.lt_of_lt_of_le (hlo b hb).2.1 hgrow.size, hfar b (hlo b hb).2.1 (hlo b hb).2.2⟩⟩
    · rw [List.getElem?_append_right (by omega), hcl]
      simp
    · rw [List.getElem_append_right (Nat.le_refl _)]
      simp only [Nat.sub_self, List.getElem_cons_zero]
      exact cells_block hx (fun b hb => hkeep b (hlo b hb).2.1 (hlo b hb).2.2) hgrow.size
theorem LRow.lc (h : LRow base w A n c l cs) : LC w w.heap.size A l := fun hn => by
  have hn' : 0 < n := by rw [h.len]; exact hn
  obtain ⟨g, cap, hv, _, hlt⟩ := World.ownsRow.form h.row hn'
  injection hv with hA _ _
  subst hA
  refine ⟨g, 0, rfl, hlt, fun k hk => ?_⟩
  obtain ⟨Ak, ck, e1, e2, _⟩ := h.el k hk
  refine ⟨Ak, ck, ?_, e2⟩
  have := h.row.cells (g := g) rfl k _ e1
  rw [Addr.add_mid] at this
  exact this
end
end Go.Proofs.YtocfppopnoegmaaDoor
