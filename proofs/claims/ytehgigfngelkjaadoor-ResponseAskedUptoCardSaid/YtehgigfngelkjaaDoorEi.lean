/- What package response's Write answers. -/
import Derived.Test.YtehgigfngelkjaaDoorEh
import Derived.Test.YtehgigfngelkjaaDoorCbld
import Derived.ArgAppend
import Derived.Deep.RegionLawGrows
namespace Go.Proofs.YtehgigfngelkjaaDoor
set_option maxRecDepth 8000
open Go.RowKit

namespace Rsp
def hd (q : Pct.PairL) : List UInt8 := q.1 ++ [58, 32] ++ q.2 ++ [13, 10]
def hds (l : List Pct.PairL) : List UInt8 := l.flatMap hd
def first (s : Int) : List UInt8 := [72, 84, 84, 80, 47, 49, 46, 49, 32] ++ Lib.decDigits s.toNat ++ [32] ++ reason s ++ [13, 10]
def all (l : List Pct.PairL) (b : List UInt8) : List Pct.PairL := l ++ [(lenName, Lib.decDigits b.length)]
def write (s : Int) (l : List Pct.PairL) (b : List UInt8) : List UInt8 := first s ++ hds (all l b) ++ ([13, 10] ++ b)
end Rsp
def writeRes (s : Int) (l : List Pct.PairL) (b : List UInt8) : Value := if Rsp.right s l b = true then .tuple #[.string (S (Rsp.write s l b)), .int .i64 0] else .tuple #[.string ⟨#[]⟩, .int .i64 1]

theorem PCells.next {w w' : World} {A : Option Addr} {l : List Pct.PairL} (h : PCells w w.heap.size A l) (hb : Below w.heap.size w w') : PCells w' w'.heap.size A l := by
  intro hn
  obtain ⟨b, off, rfl, hlt, hc⟩ := h hn
  refine ⟨b, off, rfl, Nat.lt_of_lt_of_le hlt hb.size, fun k hk => ?_⟩
  obtain ⟨c0, c1⟩ := hc k hk
  exact ⟨(hb.cell (p := ⟨b, off + k * 2, none⟩) hlt).trans c0, (hb.cell (p := ⟨b, off + k * 2 + 1, none⟩) hlt).trans c1⟩
theorem cells2_len (m : List Pct.PairL) : (cells2 m).length = m.length * 2 := by
  induction m with
  | nil => rfl
  | cons q r ih =>
    have e : cells2 (q :: r) = .string (S q.1) :: .string (S q.2) :: cells2 r := rfl
    rw [e]
    simp only [List.length_cons, ih]
    omega
/-- The cells that an append takes over. -/
theorem olds_of {w w2 : World} {A : Option Addr} {l : List Pct.PairL} (h : PCells w w.heap.size A l) (hb : Below w.heap.size w w2) : ∀ b, A = some b → ∀ j u, (cells2 l)[j]? = some u → w2.cell? (b.add j) = some u := by
  intro a ha j u hj
  have hjl : j < (cells2 l).length := by
    rcases Nat.lt_or_ge j (cells2 l).length with h1 | h1
    · exact h1
    · rw [List.getElem?_eq_none h1] at hj; cases hj
  rw [cells2_len] at hjl
  obtain ⟨b, off, rfl, hlt, hc⟩ := h.next hb (by omega)
  cases ha
  rw [Addr.add_mid]
  obtain ⟨c0, c1⟩ := hc (j / 2) (by omega)
  obtain ⟨e0, e1⟩ := cells2_at l (j / 2) (by omega)
  rcases Nat.mod_two_eq_zero_or_one j with hm | hm
  · have hjj : j / 2 * 2 = j := by omega
    rw [hjj] at c0 e0
    rw [c0, ← e0, hj]
  · have hjj : j / 2 * 2 + 1 = j := by omega
    rw [hjj] at e1
    rw [show off + j / 2 * 2 + 1 = off + j by omega] at c1
    rw [c1, ← e1, hj]
theorem all_row {base : Nat} {w : World} {v : Value} {l : List Pct.PairL} {q : Pct.PairL} (h : w.ownsRow base 44 2 v (l.length + 1) (cells2 l ++ [.string (S q.1), .string (S q.2)])) :
    ∃ gg cp, v = .slice (some ⟨gg, 0, none⟩) (l.length + 1) cp ∧ PCells w w.heap.size (some ⟨gg, 0, none⟩) (l ++ [q]) := by
  rcases h.2 with ⟨_, h0⟩ | ⟨g, cap, cur, hv, hr⟩
  · exact absurd h0 (by omega)
  · subst hv
    refine ⟨g, cap, rfl, ?_⟩
    have hp : PRow base w (.slice (some ⟨g, 0, none⟩) (l ++ [q]).length cap) (l ++ [q]) := prow_snoc h
    obtain ⟨A', cap', h1, h2⟩ := hp.reads
    injection h1 with h3
    subst h3
    exact h2
theorem reason_facts {s : Int} (h : (Rsp.reason s).isEmpty = false) : 0 ≤ s ∧ s ≤ 1000 ∧ (Rsp.reason s).length ≤ 30 := by
  unfold Rsp.reason at h ⊢
  repeat' split at h
  all_goals (first | (subst_vars; decide) | (exact absurd h (by decide)) | skip)
theorem right_parts {s : Int} {l : List Pct.PairL} {b : List UInt8} (h : Rsp.right s l b = true) : 0 ≤ s ∧ s ≤ 1000 ∧ (Rsp.reason s).length ≤ 30 ∧ l.length ≤ 32 ∧ b.length ≤ 8192 := by
  unfold Rsp.right Rsp.top at h
  simp only [Bool.and_eq_true, decide_eq_true_eq, Bool.not_eq_true'] at h
  have := reason_facts h.1.1.1
  exact ⟨this.1, this.2.1, this.2.2, h.1.1.2, h.1.2⟩

/-- The builder in block b holds acc; block g holds a pair; below the call's start nothing has turned. -/
def St (w0 : World) (b : Nat) (acc : List UInt8) (g : Nat) (n v : List UInt8) (w : World) : Prop :=
  Bld w0.heap.size b acc w ∧ w.heap[g]? = some (.cells #[.string (S n), .string (S v)] 44 (0, 0)) ∧ Below w0.heap.size w0 w
section
variable {w0 w : World} {b g : Nat} {acc n v : List UInt8}
theorem St.cell0 (h : St w0 b acc g n v w) : w.cell? ⟨g, 0, none⟩ = some (.string (S n)) := cell_of_row w g 0 _ _ _ h.2.1
theorem St.cell1 (h : St w0 b acc g n v w) : w.cell? ⟨g, 1, none⟩ = some (.string (S v)) := cell_of_row w g 1 _ _ _ h.2.1
theorem st_text (h : St w0 b acc g n v w) (s : List UInt8) (hl : acc.length ≤ 500000000000) (hs : s.length ≤ 500000000000) :
    Calls Tryd.prog 32 #[.pointer (some ⟨b, 0, none⟩), .string (S s)] w fun e w' => e = .returned (.tuple #[.int .i64 ((S s).size : Int), .nilIface]) ∧ St w0 b (acc ++ s) g n v w' :=
  (writeString_any w0.heap.size b acc s w h.1 (by omega) h.2.2.size).mono fun _ _ ⟨he, hb, hbe, hk⟩ => ⟨he, hb, hk _ _ h.2.1, h.2.2.trans hbe⟩
end
theorem st_new {w0 wr : World} {b : Nat} {acc : List UInt8} (n v : List UInt8) (h : Bld w0.heap.size b acc wr) (hb : Below w0.heap.size w0 wr) : St w0 b acc wr.heap.size n v (wr.alloc (.cells #[.string (S n), .string (S v)] 44)) :=
  ⟨h.below ((Below.refl _ _).alloc (Nat.le_refl _) _), heap_alloc_new wr _, hb.alloc hb.size _⟩
theorem hds_len : ∀ (l : List Pct.PairL), (∀ q ∈ l, q.1.length ≤ 1073741824 ∧ q.2.length ≤ 1073741824) → (Rsp.hds l).length ≤ 2147483652 * l.length
  | [], _ => by simp [Rsp.hds]
  | q :: r, h => by
    have ih := hds_len r (fun x hx => h x (List.mem_cons_of_mem _ hx))
    have h1 := h q (List.mem_cons_self ..)
    have e : Rsp.hds (q :: r) = Rsp.hd q ++ Rsp.hds r := rfl
    rw [e, List.length_append]
    unfold Rsp.hd
    simp only [List.length_append, List.length_cons, List.length_nil]
    omega
end Go.Proofs.YtehgigfngelkjaaDoor
