/- What the program's calls of package frame tell, as the one structure, where the table of sums reads as its text lays it. How a disk of package disk lies in memory, what stays of it where other blocks change, and what its small calls do (On, Staged, Len, has, fails, Drop, Stop). Conditions: numbers of calls that are left fit in an int. -/
import Derived.Test.YtkmljbbnpjlehaaDoorMg10
import Derived.Test.YtkmljbbnpjlehaaDoorRows
import Derived.Test.YtkmljbbnpjlehaaDoorMg00
import Derived.WalkKit
import Derived.WalkSpells
import Derived.WalkLawsBesides
import Derived.Lib.Hide
import Derived.Deep.MidRow
import Derived.Deep.WholeRow
import Derived.Great.BuildSlice
import Derived.Laws.CopyOwn
import Derived.RegionTactic
import Derived.Deep.LoopGhost
import Derived.Deep.QuietTactic
import Derived.BigQuiet
import Derived.IntWalk
import Derived.Maps.AppendAt
import Derived.Deep.AppendLies
import Derived.Deep.RegionHeld3
namespace Go.Proofs.YtkmljbbnpjlehaaDoor
set_option maxRecDepth 8000
open Go.RowKit

theorem frOk : FrOk Hs where
  next := fun _ _ h hb => h.next hb
  put := fun A c n l w h hn hb hc hcm => put_any A c n l w h hn hb (by omega)
  all := fun A c n l w h hn hl hc hcm ht hq => all_any A c n l w h hn hl ht hq (by omega)
  scan := fun A c n l w h hn hb hc hcm hl => scan_any A c n l w h hn hb hc hcm hl
  size := fun n w _ hn => (size_any n w hn).mono (fun _ _ ⟨h1, h2⟩ => ⟨h1, by subst h2; exact Below.refl _ _⟩)
end Go.Proofs.YtkmljbbnpjlehaaDoor
namespace Go.Proofs.YtkmljbbnpjlehaaDoor
set_option maxRecDepth 8000
open Go.RowKit

def bcs (l : List UInt8) : List Value := l.map B
def scs (l : List (Nat × List UInt8)) : List Value := l.flatMap fun s => .int .i64 (s.1 : Int) :: bcs s.2
theorem bcs_len (l : List UInt8) : (bcs l).length = l.length := by simp [bcs]
theorem bcs_one (l : List UInt8) : ∀ v ∈ bcs l, v.oneCell' = true := by
  intro v hv
  obtain ⟨c, _, rfl⟩ := List.mem_map.1 hv
  rfl
theorem bcs_splice (k : List UInt8) (o : Nat) (x : List UInt8) : bcs (splice k o x) = splice (bcs k) o (bcs x) := by simp [bcs, splice]
theorem ret_int {k : IntKind} {a b : Int} (h : a = b) : Ending.returned (.int k a) = .returned (.int k b) := by rw [h]

/-- Where a disk lies: its struct, what it keeps, what it stages, its plan. -/
structure Mm where
  P : Nat
  k : Nat
  S : Option Addr
  cS : Nat
  G : Option Addr
  cG : Nat
def Mm.F (a : Mm) : List Nat := a.P :: a.k :: (blkOf a.S ++ blkOf a.G)
/-- The bools l at G. -/
def BoC (w : World) (G : Option Addr) (l : List Bool) : Prop :=
  0 < l.length → ∃ b off, G = some ⟨b, off, none⟩ ∧ b < w.heap.size ∧ (∃ c fr, w.heap[b]? = some (.cells c 4 fr)) ∧ ∀ k (h : k < l.length), w.cell? ⟨b, off + k, none⟩ = some (.bool l[k])
structure DAt (w : World) (a : Mm) (d : Dk.D) : Prop where
  ok : Dk.Ok d
  disk : w.heap[a.P]? = some (.cells #[.slice (some ⟨a.k, 0, none⟩) d.n d.n, .slice a.S d.st.length a.cS, .slice a.G d.plan.length a.cG, .int .i64 d.left] 101 (0, 0))
  kept : w.heap[a.k]? = some (.cells (bcs d.kept).toArray 121 (0, 0))
  st : w.ownsRow 0 124 33 (.slice a.S d.st.length a.cS) d.st.length (scs d.st)
  plan : BoC w a.G d.plan
  cap : d.plan.length ≤ a.cG ∧ a.cG ≤ 9223372036854775807
  left : d.left ≤ 9223372036854775807 ∧ -9223372036854775808 ≤ d.left
/-- But for the blocks of F all that was there is as it was. -/
structure Out (F : List Nat) (w w' : World) : Prop where
  os : w'.os = w.os
  tape : w'.tape = w.tape
  output : w'.output = w.output
  size : w.heap.size ≤ w'.heap.size
  block : ∀ b, b < w.heap.size → b ∉ F → w'.heap[b]? = w.heap[b]?
theorem Out.of {F : List Nat} {w w' : World} (h : Below w.heap.size w w') : Out F w w' := ⟨h.os, h.tape, h.output, h.size, fun b hb _ => h.block b hb⟩
theorem Out.refl (F : List Nat) (w : World) : Out F w w := Out.of (Below.refl _ _)
theorem Out.more {F G : List Nat} {w w' : World} (h : Out F w w') (hs : ∀ x ∈ F, x ∈ G) : Out G w w' := ⟨h.os, h.tape, h.output, h.size, fun b hb hn => h.block b hb (fun hx => hn (hs b hx))⟩
theorem Out.trans {F G : List Nat} {w w1 w2 : World} (h : Out F w w1) (k : Out G w1 w2) (hs : ∀ x ∈ G, x ∈ F ∨ w.heap.size ≤ x) : Out F w w2 :=
  ⟨k.os.trans h.os, k.tape.trans h.tape, k.output.trans h.output, Nat.le_trans h.size k.size, fun b hb hn =>
    (k.block b (Nat.lt_of_lt_of_le hb h.size) (fun hx => (hs b hx).elim hn (fun hle => absurd hb (by omega)))).trans (h.block b hb hn)⟩
theorem Out.below {F : List Nat} {w w' : World} {base : Nat} (h : Out F w w') (hF : ∀ x ∈ F, base ≤ x) (hb : base ≤ w.heap.size) : Below base w w' :=
  ⟨h.os, h.tape, h.output, h.size, fun b hlt => h.block b (by omega) (fun hx => absurd (hF b hx) (by omega))⟩
theorem Out.setCell {F : List Nat} {w0 w : World} (h : Out F w0 w) {p : Addr} (hp : p.block ∈ F ∨ w0.heap.size ≤ p.block) (v : Value) : Out F w0 (w.setCell p v) :=
  ⟨h.os, h.tape, h.output, by rw [World.size_setCell]; exact h.size, fun b hb hn => by
    rw [Below.heap_setCell w p v b (by rintro rfl; exact hp.elim hn (fun hle => absurd hb (by omega)))]
    exact h.block b hb hn⟩
theorem Out.alloc {F : List Nat} {w0 w : World} (h : Out F w0 w) (o : Obj) : Out F w0 (w.alloc o) :=
  ⟨h.os, h.tape, h.output, Nat.le_trans h.size (by simp), fun b hb hn => (Below.heap_alloc w o b (Nat.lt_of_lt_of_le hb h.size)).trans (h.block b hb hn)⟩
theorem Out.drew {F : List Nat} {w0 w : World} (h : Out F w0 w) : Out F w0 w.drew := ⟨h.os, h.tape, h.output, h.size, h.block⟩

theorem lt_of_blk' {w : World} {b : Nat} {o : Obj} (h : w.heap[b]? = some o) : b < w.heap.size := (Array.getElem?_eq_some_iff.1 h).1
theorem own_block {w w' : World} {base : Nat} {e : TypeId} {size n : Nat} {A : Option Addr} {m c : Nat} {xs : List Value} (h : w.ownsRow base e size (.slice A m c) n xs) (hs : ∀ b ∈ blkOf A, w'.heap[b]? = w.heap[b]?) : w'.ownsRow base e size (.slice A m c) n xs := by
  refine ⟨h.1, ?_⟩
  rcases h.2 with h1 | ⟨g, cap, cur, hv, hb, hg, r⟩
  · exact .inl h1
  · refine .inr ⟨g, cap, cur, hv, hb, ?_, r⟩
    injection hv with hA _ _
    rw [hs g (by rw [hA]; simp [blkOf])]
    exact hg
theorem own_lt {w : World} {base : Nat} {e : TypeId} {size n : Nat} {A : Option Addr} {m c : Nat} {xs : List Value} (h : w.ownsRow base e size (.slice A m c) n xs) : ∀ b ∈ blkOf A, ∃ cur, w.heap[b]? = some (.cells cur e (0, 0)) := by
  intro b hb
  rcases h.2 with ⟨hv, _⟩ | ⟨g, cap, cur, hv, _, hg, _⟩
  · injection hv with hA _ _
    rw [hA] at hb
    cases hb
  · injection hv with hA _ _
    rw [hA] at hb
    simp [blkOf] at hb
    subst hb
    exact ⟨cur, hg⟩
theorem BoC.block {w w' : World} {G : Option Addr} {l : List Bool} (h : BoC w G l) (hs : ∀ b ∈ blkOf G, w'.heap[b]? = w.heap[b]?) : BoC w' G l := fun hn => by
  obtain ⟨b, off, rfl, hb, ⟨c, fr, hc⟩, hcell⟩ := h hn
  have e := hs b (by simp [blkOf])
  refine ⟨b, off, rfl, lt_of_blk' (e.trans hc), ⟨c, fr, e.trans hc⟩, fun k hk => ?_⟩
  exact (World.cell?_of_block (w := w) (w' := w') (a := ⟨b, off + k, none⟩) e).trans (hcell k hk)
theorem mem_F (a : Mm) (x : Nat) : x ∈ a.F ↔ x = a.P ∨ x = a.k ∨ x ∈ blkOf a.S ∨ x ∈ blkOf a.G := by simp [Mm.F]
/-- What no block of the disk is changed of stays. -/
theorem DAt.same {w w' : World} {a : Mm} {d : Dk.D} (h : DAt w a d) (hs : ∀ b ∈ a.F, w'.heap[b]? = w.heap[b]?) : DAt w' a d where
  ok := h.ok
  disk := (hs a.P ((mem_F a _).2 (.inl rfl))).trans h.disk
  kept := (hs a.k ((mem_F a _).2 (.inr (.inl rfl)))).trans h.kept
  st := own_block h.st (fun b hb => hs b ((mem_F a _).2 (.inr (.inr (.inl hb)))))
  plan := h.plan.block (fun b hb => hs b ((mem_F a _).2 (.inr (.inr (.inr hb)))))
  cap := h.cap
  left := h.left
/-- The disk's blocks are there; where its plan is empty its place is none, or there too. -/
structure There (w : World) (a : Mm) : Prop where
  all : ∀ x ∈ a.F, x < w.heap.size
theorem DAt.sep {w w' : World} {a : Mm} {d : Dk.D} {F : List Nat} (h : DAt w a d) (ht : There w a) (ho : Out F w w') (hF : ∀ x ∈ a.F, x ∉ F) : DAt w' a d := h.same (fun b hb => ho.block b (ht.all b hb) (hF b hb))
theorem There.more {w w' : World} {a : Mm} (h : There w a) (hs : w.heap.size ≤ w'.heap.size) : There w' a := ⟨fun x hx => Nat.lt_of_lt_of_le (h.all x hx) hs⟩
/-- A step of the disk: it is as d' behind it, where it was, but for what it stages and plans; all else is as it was. -/
def Step (w : World) (a : Mm) (d' : Dk.D) (w' : World) : Prop :=
  ∃ a', a'.P = a.P ∧ a'.k = a.k ∧ DAt w' a' d' ∧ There w' a' ∧ Out a.F w w' ∧ ∀ x ∈ a'.F, x ∈ a.F ∨ w.heap.size ≤ x
theorem Step.quiet {w w' : World} {a : Mm} {d : Dk.D} (h : DAt w a d) (ht : There w a) (hb : Below w.heap.size w w') : Step w a d w' :=
  ⟨a, rfl, rfl, h.same (fun b hb' => hb.block b (ht.all b hb')), ht.more hb.size, Out.of hb, fun _ hx => .inl hx⟩
theorem DAt.c {w : World} {a : Mm} {d : Dk.D} (h : DAt w a d) : w.cell? ⟨a.P, 0, none⟩ = some (.slice (some ⟨a.k, 0, none⟩) d.n d.n) ∧ w.cell? ⟨a.P, 1, none⟩ = some (.slice a.S d.st.length a.cS) ∧ w.cell? ⟨a.P, 2, none⟩ = some (.slice a.G d.plan.length a.cG) ∧ w.cell? ⟨a.P, 3, none⟩ = some (.int .i64 d.left) :=
  ⟨cell_of_row w _ 0 _ _ _ h.disk, cell_of_row w _ 1 _ _ _ h.disk, cell_of_row w _ 2 _ _ _ h.disk, cell_of_row w _ 3 _ _ _ h.disk⟩
theorem DAt.fr {w : World} {a : Mm} {d : Dk.D} (h : DAt w a d) (j : Nat) : w.frozen? ⟨a.P, j, none⟩ = false := frozen_of_row w a.P j _ _ h.disk
theorem DAt.Pk {w : World} {a : Mm} {d : Dk.D} (h : DAt w a d) : a.P ≠ a.k := by
  intro e
  have h1 := h.disk
  rw [e, h.kept] at h1
  simp at h1
theorem DAt.PS {w : World} {a : Mm} {d : Dk.D} (h : DAt w a d) : a.P ∉ blkOf a.S := by
  intro e
  obtain ⟨cur, h1⟩ := own_lt h.st _ e
  rw [h.disk] at h1
  simp at h1
theorem DAt.kS {w : World} {a : Mm} {d : Dk.D} (h : DAt w a d) : a.k ∉ blkOf a.S := by
  intro e
  obtain ⟨cur, h1⟩ := own_lt h.st _ e
  rw [h.kept] at h1
  simp at h1
theorem BoC.far {w : World} {G : Option Addr} {l : List Bool} (h : BoC w G l) (hn : 0 < l.length) {b : Nat} {c : Array Value} {t : TypeId} {fr : Nat × Nat} (hb : w.heap[b]? = some (.cells c t fr)) (ht : t ≠ 4) : b ∉ blkOf G := by
  intro e
  obtain ⟨g, off, rfl, _, ⟨c', fr', hg⟩, _⟩ := h hn
  simp [blkOf] at e
  subst e
  rw [hb] at hg
  simp at hg
  exact ht hg.2.1
/-- BoC where a block that is no row of bools has changed. -/
theorem BoC.past {w w' : World} {G : Option Addr} {l : List Bool} {b : Nat} {c : Array Value} {t : TypeId} {fr : Nat × Nat} (h : BoC w G l) (hb : w.heap[b]? = some (.cells c t fr)) (ht : t ≠ 4) (hs : ∀ x, x < w.heap.size → x ≠ b → w'.heap[x]? = w.heap[x]?) : BoC w' G l := fun hn => by
  have hf := h.far hn hb ht
  have h' : BoC w' G l := h.block (fun x hx => by
    obtain ⟨g, off, rfl, hg, _⟩ := h hn
    simp [blkOf] at hx
    subst hx
    exact hs _ hg (fun e => hf (by rw [← e]; simp [blkOf])))
  exact h' hn

/-- A cell of the struct itself is set. -/
theorem DAt.setP {w w' : World} {a a' : Mm} {d d' : Dk.D} (h : DAt w a d) (ht : There w a) (hP : a'.P = a.P) (hk : a'.k = a.k) (hn : d'.n = d.n) (hkept : d'.kept = d.kept) (hok : Dk.Ok d')
    (hd : w'.heap[a.P]? = some (.cells #[.slice (some ⟨a.k, 0, none⟩) d.n d.n, .slice a'.S d'.st.length a'.cS, .slice a'.G d'.plan.length a'.cG, .int .i64 d'.left] 101 (0, 0)))
    (hs : ∀ x, x < w.heap.size → x ≠ a.P → w'.heap[x]? = w.heap[x]?)
    (hst : w'.ownsRow 0 124 33 (.slice a'.S d'.st.length a'.cS) d'.st.length (scs d'.st)) (hpl : BoC w' a'.G d'.plan) (hcap : d'.plan.length ≤ a'.cG ∧ a'.cG ≤ 9223372036854775807) (hl : d'.left ≤ 9223372036854775807 ∧ -9223372036854775808 ≤ d'.left) : DAt w' a' d' where
  ok := hok
  disk := by rw [hP, hk, hn]; exact hd
  kept := by
    rw [hk, hkept]
    exact (hs a.k (ht.all _ ((mem_F a _).2 (.inr (.inl rfl)))) (fun e => h.Pk e.symm)).trans h.kept
  st := hst
  plan := hpl
  cap := hcap
  left := hl
theorem own_past {w w' : World} {a : Mm} {d : Dk.D} (h : DAt w a d) (ht : There w a) (hs : ∀ x, x < w.heap.size → x ≠ a.P → w'.heap[x]? = w.heap[x]?) : w'.ownsRow 0 124 33 (.slice a.S d.st.length a.cS) d.st.length (scs d.st) :=
  own_block h.st (fun b hb => hs b (ht.all b ((mem_F a _).2 (.inr (.inr (.inl hb))))) (fun e => h.PS (e ▸ hb)))

/-! The small calls. -/
theorem on_any (w : World) (a : Mm) (d : Dk.D) (h : DAt w a d) :
    Calls Tryd.prog 73 #[.pointer (some ⟨a.P, 0, none⟩)] w fun e w' => e = .returned (.bool d.on) ∧ w = w' := by
  have c3 := h.c.2.2.2
  have e1 : (d.left != 0) = d.on := by unfold Dk.D.on; by_cases h0 : d.left = 0 <;> simp [h0]
  go_enter Tryd.func73, Tryd.ntmps73
  go_wp2
  go_ret
  exact ⟨rfl, rfl⟩
theorem staged_any (w : World) (a : Mm) (d : Dk.D) (h : DAt w a d) :
    Calls Tryd.prog 23 #[.pointer (some ⟨a.P, 0, none⟩)] w fun e w' => e = .returned (.int .i64 d.st.length) ∧ w = w' := by
  have c1 := h.c.2.1
  go_enter Tryd.func23, Tryd.ntmps23
  go_wp2
  go_ret
  exact ⟨rfl, rfl⟩
theorem len_any (w : World) (a : Mm) (d : Dk.D) (h : DAt w a d) :
    Calls Tryd.prog 58 #[.pointer (some ⟨a.P, 0, none⟩)] w fun e w' => e = .returned (.int .i64 d.n) ∧ w = w' := by
  have c0 := h.c.1
  go_enter Tryd.func58, Tryd.ntmps58
  go_wp2
  go_ret
  exact ⟨rfl, rfl⟩
def hasB (n : Nat) (i : Int) : Bool := decide (0 ≤ i ∧ i < (n : Int))
theorem has_any (w : World) (a : Mm) (d : Dk.D) (i : Int) (h : DAt w a d) :
    Calls Tryd.prog 117 #[.pointer (some ⟨a.P, 0, none⟩), .int .i64 i] w fun e w' => e = .returned (.bool (hasB d.n i)) ∧ w = w' := by
  have c0 := h.c.1
  by_cases h0 : 0 ≤ i
  · have e1 : hasB d.n i = decide (i < (d.n : Int)) := by unfold hasB; simp [h0]
    rw [e1]
    go_enter Tryd.func117, Tryd.ntmps117
    go_wp2
    go_ret
    exact ⟨rfl, rfl⟩
  · have e1 : hasB d.n i = false := by unfold hasB; simp; omega
    rw [e1]
    go_enter Tryd.func117, Tryd.ntmps117
    go_wp2
    go_ret
    exact ⟨rfl, rfl⟩
end Go.Proofs.YtkmljbbnpjlehaaDoor
