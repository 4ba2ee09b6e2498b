/- How a disk of package disk lies in memory, what stays of it where other blocks change, and what its small calls do (On, Staged, Len, has, fails, Drop, Stop). Conditions: numbers of calls that are left fit in an int. What the calls fails, Drop, Stop and Faults of package disk do, for any disk. No condition. -/
import Derived.Test.YtfceljbmdcbciaaDoorRows
import Derived.Test.YtfceljbmdcbciaaDoorMg09
import Derived.Test.YtfceljbmdcbciaaDoorMg18
import Derived.WalkKit
import Derived.WalkSpells
import Derived.WalkLawsBesides
import Derived.Lib.Hide
import Derived.Deep.MidRow
import Derived.Deep.WholeRow
import Derived.Great.BuildSlice
import Derived.Laws.CopyOwn
import Derived.RegionTactic
import Derived.Deep.LoopGhost
import Derived.Deep.QuietTactic
import Derived.BigQuiet
import Derived.IntWalk
import Derived.Maps.AppendAt
import Derived.Deep.AppendLies
import Derived.Deep.RegionHeld3
import Derived.Lib.SliceRun
namespace Go.Proofs.YtfceljbmdcbciaaDoor
set_option maxRecDepth 8000
open Go.RowKit

def bcs (l : List UInt8) : List Value := l.map B
def scs (l : List (Nat × List UInt8)) : List Value := l.flatMap fun s => .int .i64 (s.1 : Int) :: bcs s.2
theorem bcs_len (l : List UInt8) : (bcs l).length = l.length := by simp [bcs]
theorem bcs_one (l : List UInt8) : ∀ v ∈ bcs l, v.oneCell' = true := by
  intro v hv
  obtain ⟨c, _, rfl⟩ := List.mem_map.1 hv
  rfl
theorem bcs_splice (k : List UInt8) (o : Nat) (x : List UInt8) : bcs (splice k o x) = splice (bcs k) o (bcs x) := by simp [bcs, splice]
theorem ret_int {k : IntKind} {a b : Int} (h : a = b) : Ending.returned (.int k a) = .returned (.int k b) := by rw [h]

/-- Where a disk lies: its struct, what it keeps, what it stages, its plan. -/
structure Mm where
  P : Nat
  k : Nat
  S : Option Addr
  cS : Nat
  G : Option Addr
  cG : Nat
def Mm.F (a : Mm) : List Nat := a.P :: a.k :: (blkOf a.S ++ blkOf a.G)
/-- The bools l at G. -/
def BoC (w : World) (G : Option Addr) (l : List Bool) : Prop :=
  0 < l.length → ∃ b off, G = some ⟨b, off, none⟩ ∧ b < w.heap.size ∧ (∃ c fr, w.heap[b]? = some (.cells c 4 fr)) ∧ ∀ k (h : k < l.length), w.cell? ⟨b, off + k, none⟩ = some (.bool l[k])
structure DAt (w : World) (a : Mm) (d : Dk.D) : Prop where
  ok : Dk.Ok d
  disk : w.heap[a.P]? = some (.cells #[.slice (some ⟨a.k, 0, none⟩) d.n d.n, .slice a.S d.st.length a.cS, .slice a.G d.plan.length a.cG, .int .i64 d.left] 80 (0, 0))
  kept : w.heap[a.k]? = some (.cells (bcs d.kept).toArray 119 (0, 0))
  st : w.ownsRow 0 121 33 (.slice a.S d.st.length a.cS) d.st.length (scs d.st)
  plan : BoC w a.G d.plan
  cap : d.plan.length ≤ a.cG ∧ a.cG ≤ 9223372036854775807
  left : d.left ≤ 9223372036854775807 ∧ -9223372036854775808 ≤ d.left
/-- But for the blocks of F all that was there is as it was. -/
structure Out (F : List Nat) (w w' : World) : Prop where
  os : w'.os = w.os
  tape : w'.tape = w.tape
  output : w'.output = w.output
  size : w.heap.size ≤ w'.heap.size
  block : ∀ b, b < w.heap.size → b ∉ F → w'.heap[b]? = w.heap[b]?
theorem Out.of {F : List Nat} {w w' : World} (h : Below w.heap.size w w') : Out F w w' := ⟨h.os, h.tape, h.output, h.size, fun b hb _ => h.block b hb⟩
theorem Out.refl (F : List Nat) (w : World) : Out F w w := Out.of (Below.refl _ _)
theorem Out.more {F G : List Nat} {w w' : World} (h : Out F w w') (hs : ∀ x ∈ F, x ∈ G) : Out G w w' := ⟨h.os, h.tape, h.output, h.size, fun b hb hn => h.block b hb (fun hx => hn (hs b hx))⟩
theorem Out.trans {F G : List Nat} {w w1 w2 : World} (h : Out F w w1) (k : Out G w1 w2) (hs : ∀ x ∈ G, x ∈ F ∨ w.heap.size ≤ x) : Out F w w2 :=
  ⟨k.os.trans h.os, k.tape.trans h.tape, k.output.trans h.output, Nat.le_trans h.size k.size, fun b hb hn =>
    (k.block b (Nat.lt_of_lt_of_le hb h.size) (fun hx => (hs b hx).elim hn (fun hle => absurd hb (by omega)))).trans (h.block b hb hn)⟩
theorem Out.below {F : List Nat} {w w' : World} {base : Nat} (h : Out F w w') (hF : ∀ x ∈ F, base ≤ x) (hb : base ≤ w.heap.size) : Below base w w' :=
  ⟨h.os, h.tape, h.output, h.size, fun b hlt => h.block b (by omega) (fun hx => absurd (hF b hx) (by omega))⟩
theorem Out.setCell {F : List Nat} {w0 w : World} (h : Out F w0 w) {p : Addr} (hp : p.block ∈ F ∨ w0.heap.size ≤ p.block) (v : Value) : Out F w0 (w.setCell p v) :=
  ⟨h.os, h.tape, h.output, by rw [World.size_setCell]; exact h.size, fun b hb hn => by
    rw [Below.heap_setCell w p v b (by rintro rfl; exact hp.elim hn (fun hle => absurd hb (by omega)))]
    exact h.block b hb hn⟩
theorem Out.alloc {F : List Nat} {w0 w : World} (h : Out F w0 w) (o : Obj) : Out F w0 (w.alloc o) :=
  ⟨h.os, h.tape, h.output, Nat.le_trans h.size (by simp), fun b hb hn => (Below.heap_alloc w o b (Nat.lt_of_lt_of_le hb h.size)).trans (h.block b hb hn)⟩
theorem Out.drew {F : List Nat} {w0 w : World} (h : Out F w0 w) : Out F w0 w.drew := ⟨h.os, h.tape, h.output, h.size, h.block⟩

theorem lt_of_blk' {w : World} {b : Nat} {o : Obj} (h : w.heap[b]? = some o) : b < w.heap.size := (Array.getElem?_eq_some_iff.1 h).1
theorem own_block {w w' : World} {base : Nat} {e : TypeId} {size n : Nat} {A : Option Addr} {m c : Nat} {xs : List Value} (h : w.ownsRow base e size (.slice A m c) n xs) (hs : ∀ b ∈ blkOf A, w'.heap[b]? = w.heap[b]?) : w'.ownsRow base e size (.slice A m c) n xs := by
  refine ⟨h.1, ?_⟩
  rcases h.2 with h1 | ⟨g, cap, cur, hv, hb, hg, r⟩
  · exact .inl h1
  · refine .inr ⟨g, cap, cur, hv, hb, ?_, r⟩
    injection hv with hA _ _
    rw [hs g (by rw [hA]; simp [blkOf])]
    exact hg
theorem own_lt {w : World} {base : Nat} {e : TypeId} {size n : Nat} {A : Option Addr} {m c : Nat} {xs : List Value} (h : w.ownsRow base e size (.slice A m c) n xs) : ∀ b ∈ blkOf A, ∃ cur, w.heap[b]? = some (.cells cur e (0, 0)) := by
  intro b hb
  rcases h.2 with ⟨hv, _⟩ | ⟨g, cap, cur, hv, _, hg, _⟩
  · injection hv with hA _ _
    rw [hA] at hb
    cases hb
  · injection hv with hA _ _
    rw [hA] at hb
    simp [blkOf] at hb
    subst hb
    exact ⟨cur, hg⟩
theorem BoC.block {w w' : World} {G : Option Addr} {l : List Bool} (h : BoC w G l) (hs : ∀ b ∈ blkOf G, w'.heap[b]? = w.heap[b]?) : BoC w' G l := fun hn => by
  obtain ⟨b, off, rfl, hb, ⟨c, fr, hc⟩, hcell⟩ := h hn
  have e := hs b (by simp [blkOf])
  refine ⟨b, off, rfl, lt_of_blk' (e.trans hc), ⟨c, fr, e.trans hc⟩, fun k hk => ?_⟩
  exact (World.cell?_of_block (w := w) (w' := w') (a := ⟨b, off + k, none⟩) e).trans (hcell k hk)
theorem mem_F (a : Mm) (x : Nat) : x ∈ a.F ↔ x = a.P ∨ x = a.k ∨ x ∈ blkOf a.S ∨ x ∈ blkOf a.G := by simp [Mm.F]
/-- What no block of the disk is changed of stays. -/
theorem DAt.same {w w' : World} {a : Mm} {d : Dk.D} (h : DAt w a d) (hs : ∀ b ∈ a.F, w'.heap[b]? = w.heap[b]?) : DAt w' a d where
  ok := h.ok
  disk := (hs a.P ((mem_F a _).2 (.inl rfl))).trans h.disk
  kept := (hs a.k ((mem_F a _).2 (.inr (.inl rfl)))).trans h.kept
  st := own_block h.st (fun b hb => hs b ((mem_F a _).2 (.inr (.inr (.inl hb)))))
  plan := h.plan.block (fun b hb => hs b ((mem_F a _).2 (.inr (.inr (.inr hb)))))
  cap := h.cap
  left := h.left
/-- The disk's blocks are there; where its plan is empty its place is none, or there too. -/
structure There (w : World) (a : Mm) : Prop where
  all : ∀ x ∈ a.F, x < w.heap.size
theorem DAt.sep {w w' : World} {a : Mm} {d : Dk.D} {F : List Nat} (h : DAt w a d) (ht : There w a) (ho : Out F w w') (hF : ∀ x ∈ a.F, x ∉ F) : DAt w' a d := h.same (fun b hb => ho.block b (ht.all b hb) (hF b hb))
theorem There.more {w w' : World} {a : Mm} (h : There w a) (hs : w.heap.size ≤ w'.heap.size) : There w' a := ⟨fun x hx => Nat.lt_of_lt_of_le (h.all x hx) hs⟩
/-- A step of the disk: it is as d' behind it, where it was, but for what it stages and plans; all else is as it was. -/
def Step (w : World) (a : Mm) (d' : Dk.D) (w' : World) : Prop :=
  ∃ a', a'.P = a.P ∧ a'.k = a.k ∧ DAt w' a' d' ∧ There w' a' ∧ Out a.F w w' ∧ ∀ x ∈ a'.F, x ∈ a.F ∨ w.heap.size ≤ x
theorem Step.quiet {w w' : World} {a : Mm} {d : Dk.D} (h : DAt w a d) (ht : There w a) (hb : Below w.heap.size w w') : Step w a d w' :=
  ⟨a, rfl, rfl, h.same (fun b hb' => hb.block b (ht.all b hb')), ht.more hb.size, Out.of hb, fun _ hx => .inl hx⟩
theorem DAt.c {w : World} {a : Mm} {d : Dk.D} (h : DAt w a d) : w.cell? ⟨a.P, 0, none⟩ = some (.slice (some ⟨a.k, 0, none⟩) d.n d.n) ∧ w.cell? ⟨a.P, 1, none⟩ = some (.slice a.S d.st.length a.cS) ∧ w.cell? ⟨a.P, 2, none⟩ = some (.slice a.G d.plan.length a.cG) ∧ w.cell? ⟨a.P, 3, none⟩ = some (.int .i64 d.left) :=
  ⟨cell_of_row w _ 0 _ _ _ h.disk, cell_of_row w _ 1 _ _ _ h.disk, cell_of_row w _ 2 _ _ _ h.disk, cell_of_row w _ 3 _ _ _ h.disk⟩
theorem DAt.fr {w : World} {a : Mm} {d : Dk.D} (h : DAt w a d) (j : Nat) : w.frozen? ⟨a.P, j, none⟩ = false := frozen_of_row w a.P j _ _ h.disk
theorem DAt.Pk {w : World} {a : Mm} {d : Dk.D} (h : DAt w a d) : a.P ≠ a.k := by
  intro e
  have h1 := h.disk
  rw [e, h.kept] at h1
  simp at h1
theorem DAt.PS {w : World} {a : Mm} {d : Dk.D} (h : DAt w a d) : a.P ∉ blkOf a.S := by
  intro e
  obtain ⟨cur, h1⟩ := own_lt h.st _ e
  rw [h.disk] at h1
  simp at h1
theorem DAt.kS {w : World} {a : Mm} {d : Dk.D} (h : DAt w a d) : a.k ∉ blkOf a.S := by
  intro e
  obtain ⟨cur, h1⟩ := own_lt h.st _ e
  rw [h.kept] at h1
  simp at h1
theorem BoC.far {w : World} {G : Option Addr} {l : List Bool} (h : BoC w G l) (hn : 0 < l.length) {b : Nat} {c : Array Value} {t : TypeId} {fr : Nat × Nat} (hb : w.heap[b]? = some (.cells c t fr)) (ht : t ≠ 4) : b ∉ blkOf G := by
  intro e
  obtain ⟨g, off, rfl, _, ⟨c', fr', hg⟩, _⟩ := h hn
  simp [blkOf] at e
  subst e
  rw [hb] at hg
  simp at hg
  exact ht hg.2.1
/-- BoC where a block that is no row of bools has changed. -/
theorem BoC.past {w w' : World} {G : Option Addr} {l : List Bool} {b : Nat} {c : Array Value} {t : TypeId} {fr : Nat × Nat} (h : BoC w G l) (hb : w.heap[b]? = some (.cells c t fr)) (ht : t ≠ 4) (hs : ∀ x, x < w.heap.size → x ≠ b → w'.heap[x]? = w.heap[x]?) : BoC w' G l := fun hn => by
  have hf := h.far hn hb ht
  have h' : BoC w' G l := h.block (fun x hx => by
    obtain ⟨g, off, rfl, hg, _⟩ := h hn
    simp [blkOf] at hx
    subst hx
    exact hs _ hg (fun e => hf (by rw [← e]; simp [blkOf])))
  exact h' hn

/-- A cell of the struct itself is set. -/
theorem DAt.setP {w w' : World} {a a' : Mm} {d d' : Dk.D} (h : DAt w a d) (ht : There w a) (hP : a'.P = a.P) (hk : a'.k = a.k) (hn : d'.n = d.n) (hkept : d'.kept = d.kept) (hok : Dk.Ok d')
    (hd : w'.heap[a.P]? = some (.cells #[.slice (some ⟨a.k, 0, none⟩) d.n d.n, .slice a'.S d'.st.length a'.cS, .slice a'.G d'.plan.length a'.cG, .int .i64 d'.left] 80 (0, 0)))
    (hs : ∀ x, x < w.heap.size → x ≠ a.P → w'.heap[x]? = w.heap[x]?)
    (hst : w'.ownsRow 0 121 33 (.slice a'.S d'.st.length a'.cS) d'.st.length (scs d'.st)) (hpl : BoC w' a'.G d'.plan) (hcap : d'.plan.length ≤ a'.cG ∧ a'.cG ≤ 9223372036854775807) (hl : d'.left ≤ 9223372036854775807 ∧ -9223372036854775808 ≤ d'.left) : DAt w' a' d' where
  ok := hok
  disk := by rw [hP, hk, hn]; exact hd
  kept := by
    rw [hk, hkept]
    exact (hs a.k (ht.all _ ((mem_F a _).2 (.inr (.inl rfl)))) (fun e => h.Pk e.symm)).trans h.kept
  st := hst
  plan := hpl
  cap := hcap
  left := hl
theorem own_past {w w' : World} {a : Mm} {d : Dk.D} (h : DAt w a d) (ht : There w a) (hs : ∀ x, x < w.heap.size → x ≠ a.P → w'.heap[x]? = w.heap[x]?) : w'.ownsRow 0 121 33 (.slice a.S d.st.length a.cS) d.st.length (scs d.st) :=
  own_block h.st (fun b hb => hs b (ht.all b ((mem_F a _).2 (.inr (.inr (.inl hb))))) (fun e => h.PS (e ▸ hb)))

/-! The small calls. -/
theorem on_any (w : World) (a : Mm) (d : Dk.D) (h : DAt w a d) :
    Calls Tryd.prog 62 #[.pointer (some ⟨a.P, 0, none⟩)] w fun e w' => e = .returned (.bool d.on) ∧ w = w' := by
  have c3 := h.c.2.2.2
  have e1 : (d.left != 0) = d.on := by unfold Dk.D.on; by_cases h0 : d.left = 0 <;> simp [h0]
  go_enter Tryd.func62, Tryd.ntmps62
  go_wp2
  go_ret
  exact ⟨rfl, rfl⟩
theorem staged_any (w : World) (a : Mm) (d : Dk.D) (h : DAt w a d) :
    Calls Tryd.prog 19 #[.pointer (some ⟨a.P, 0, none⟩)] w fun e w' => e = .returned (.int .i64 d.st.length) ∧ w = w' := by
  have c1 := h.c.2.1
  go_enter Tryd.func19, Tryd.ntmps19
  go_wp2
  go_ret
  exact ⟨rfl, rfl⟩
theorem len_any (w : World) (a : Mm) (d : Dk.D) (h : DAt w a d) :
    Calls Tryd.prog 42 #[.pointer (some ⟨a.P, 0, none⟩)] w fun e w' => e = .returned (.int .i64 d.n) ∧ w = w' := by
  have c0 := h.c.1
  go_enter Tryd.func42, Tryd.ntmps42
  go_wp2
  go_ret
  exact ⟨rfl, rfl⟩
def hasB (n : Nat) (i : Int) : Bool := decide (0 ≤ i ∧ i < (n : Int))
theorem has_any (w : World) (a : Mm) (d : Dk.D) (i : Int) (h : DAt w a d) :
    Calls Tryd.prog 104 #[.pointer (some ⟨a.P, 0, none⟩), .int .i64 i] w fun e w' => e = .returned (.bool (hasB d.n i)) ∧ w = w' := by
  have c0 := h.c.1
  by_cases h0 : 0 ≤ i
  · have e1 : hasB d.n i = decide (i < (d.n : Int)) := by unfold hasB; simp [h0]
    rw [e1]
    go_enter Tryd.func104, Tryd.ntmps104
    go_wp2
    go_ret
    exact ⟨rfl, rfl⟩
  · have e1 : hasB d.n i = false := by unfold hasB; simp; omega
    rw [e1]
    go_enter Tryd.func104, Tryd.ntmps104
    go_wp2
    go_ret
    exact ⟨rfl, rfl⟩
end Go.Proofs.YtfceljbmdcbciaaDoor
namespace Go.Proofs.YtfceljbmdcbciaaDoor
set_option maxRecDepth 8000
open Go.RowKit

theorem setP_heap {w : World} {P : Nat} {cs : Array Value} {t : TypeId} (h : w.heap[P]? = some (.cells cs t (0, 0))) (j : Nat) (v : Value) : (w.setCell ⟨P, j, none⟩ v).heap[P]? = some (.cells (cs.setIfInBounds j v) t (0, 0)) := heap_setCell_same w P j cs t v h
theorem setP_other (w : World) (P j : Nat) (v : Value) (x : Nat) (h : x ≠ P) : (w.setCell ⟨P, j, none⟩ v).heap[x]? = w.heap[x]? := Below.heap_setCell w ⟨P, j, none⟩ v x h
theorem There.setP {w : World} {a : Mm} (h : There w a) (p : Addr) (v : Value) : There (w.setCell p v) a := ⟨fun x hx => by rw [World.size_setCell]; exact h.all x hx⟩
theorem sub_F {a a' : Mm} (hP : a'.P = a.P) (hk : a'.k = a.k) (hS : ∀ x ∈ blkOf a'.S, x ∈ blkOf a.S) (hG : ∀ x ∈ blkOf a'.G, x ∈ blkOf a.G) : ∀ x ∈ a'.F, x ∈ a.F := by
  intro x hx
  rw [mem_F] at hx ⊢
  rw [hP, hk] at hx
  rcases hx with h | h | h | h
  · exact .inl h
  · exact .inr (.inl h)
  · exact .inr (.inr (.inl (hS x h)))
  · exact .inr (.inr (.inr (hG x h)))

/-- The number of calls that are left is set. -/
theorem step_left {w : World} {a : Mm} {d : Dk.D} (h : DAt w a d) (ht : There w a) (x : Int) (hx : x ≤ 9223372036854775807 ∧ -9223372036854775808 ≤ x) : Step w a { d with left := x } (w.setCell ⟨a.P, 3, none⟩ (.int .i64 x)) :=
  ⟨a, rfl, rfl, h.setP ht rfl rfl rfl rfl ⟨h.ok.n, h.ok.kept, h.ok.st⟩ (setP_heap h.disk 3 _) (fun y _ hy => setP_other w a.P 3 _ y hy) (own_past (d := d) h ht (fun y _ hy => setP_other w a.P 3 _ y hy) :) (h.plan.past h.disk (by decide) (fun y _ hy => setP_other w a.P 3 _ y hy)) h.cap hx,
    ht.setP _ _, (Out.refl _ _).setCell (.inl ((mem_F a _).2 (.inl rfl))) _, fun _ hx => .inl hx⟩
/-- Nothing is staged any more. -/
theorem step_drop {w : World} {a : Mm} {d : Dk.D} (h : DAt w a d) (ht : There w a) : Step w a { d with st := [] } (w.setCell ⟨a.P, 1, none⟩ (.slice none 0 0)) := by
  have hsub : ∀ x ∈ ({ a with S := none, cS := 0 } : Mm).F, x ∈ a.F := sub_F rfl rfl (fun _ hx => by cases hx) (fun _ hx => hx)
  exact ⟨{ a with S := none, cS := 0 }, rfl, rfl, h.setP (a' := { a with S := none, cS := 0 }) ht rfl rfl rfl rfl ⟨h.ok.n, h.ok.kept, fun s hs => by cases hs⟩ (setP_heap h.disk 1 _) (fun y _ hy => setP_other w a.P 1 _ y hy) (World.ownsRow_nil _ _ _ _) (h.plan.past h.disk (by decide) (fun y _ hy => setP_other w a.P 1 _ y hy)) h.cap h.left,
    ⟨fun x hx => by rw [World.size_setCell]; exact ht.all x (hsub x hx)⟩, (Out.refl _ _).setCell (.inl ((mem_F a _).2 (.inl rfl))) _, fun x hx => .inl (hsub x hx)⟩
/-- The plan is set. -/
theorem step_plan {w : World} {a : Mm} {d : Dk.D} (h : DAt w a d) (ht : There w a) (G : Option Addr) (cG : Nat) (p : List Bool) (hp : BoC w G p) (hcap : p.length ≤ cG ∧ cG ≤ 9223372036854775807) (hG : ∀ x ∈ blkOf G, x < w.heap.size) (base : Nat) (_hb : base ≤ w.heap.size) (hF : ∀ x ∈ blkOf G, x ∈ a.F ∨ base ≤ x) :
    ∃ a', a'.P = a.P ∧ a'.k = a.k ∧ DAt (w.setCell ⟨a.P, 2, none⟩ (.slice G p.length cG)) a' { d with plan := p } ∧ There (w.setCell ⟨a.P, 2, none⟩ (.slice G p.length cG)) a' ∧ ∀ x ∈ a'.F, x ∈ a.F ∨ base ≤ x := by
  refine ⟨{ a with G := G, cG := cG }, rfl, rfl, h.setP (a' := { a with G := G, cG := cG }) ht rfl rfl rfl rfl ⟨h.ok.n, h.ok.kept, h.ok.st⟩ (setP_heap h.disk 2 _) (fun y _ hy => setP_other w a.P 2 _ y hy) (own_past (a := a) (d := d) h ht (fun y _ hy => setP_other w a.P 2 _ y hy) :) (hp.past h.disk (by decide) (fun y _ hy => setP_other w a.P 2 _ y hy)) hcap h.left, ⟨fun x hx => ?_⟩, fun x hx => ?_⟩
  · rw [World.size_setCell]
    rcases (mem_F _ _).1 hx with rfl | rfl | hx | hx
    · exact ht.all _ ((mem_F a _).2 (.inl rfl))
    · exact ht.all _ ((mem_F a _).2 (.inr (.inl rfl)))
    · exact ht.all _ ((mem_F a _).2 (.inr (.inr (.inl hx))))
    · exact hG x hx
  · rcases (mem_F _ _).1 hx with rfl | rfl | hx | hx
    · exact .inl ((mem_F a _).2 (.inl rfl))
    · exact .inl ((mem_F a _).2 (.inr (.inl rfl)))
    · exact .inl ((mem_F a _).2 (.inr (.inr (.inl hx))))
    · exact hF x hx

def NoPost (w : World) (a : Mm) (d' : Dk.D) (e : Ending) (w' : World) : Prop := e = .returned (.tuple #[]) ∧ Step w a d' w'

theorem drop_any (w : World) (a : Mm) (d : Dk.D) (h : DAt w a d) (ht : There w a) :
    Calls Tryd.prog 100 #[.pointer (some ⟨a.P, 0, none⟩)] w (NoPost w a d.drop) := by
  have HO := on_any w a d h
  have c1 := h.c.2.1
  have f1 := h.fr 1
  by_cases h0 : d.left = 0
  · have HS : Hid (Step w a d.drop w) := Lib.hid (by unfold Dk.D.drop; rw [if_pos h0]; exact Step.quiet h ht (Below.refl _ _))
    have e1 : d.on = false := by unfold Dk.D.on; simp [h0]
    rw [e1] at HO
    clear h0 e1
    go_enter Tryd.func100, Tryd.ntmps100
    go_wp2_with fail
    refine HO.mono ?_
    rintro e w' ⟨rfl, rfl⟩
    go_wp2
    go_end0
    exact ⟨rfl, HS.out⟩
  · have HS : Hid (Step w a d.drop (w.setCell ⟨a.P, 1, none⟩ (.slice none 0 0))) := Lib.hid (by unfold Dk.D.drop; rw [if_neg h0]; exact step_drop h ht)
    have e1 : d.on = true := by unfold Dk.D.on; simp [h0]
    rw [e1] at HO
    clear h0 e1
    go_enter Tryd.func100, Tryd.ntmps100
    go_wp2_with fail
    refine HO.mono ?_
    rintro e w' ⟨rfl, rfl⟩
    go_wp2
    go_end0
    exact ⟨rfl, HS.out⟩

theorem stop_any (w : World) (a : Mm) (d : Dk.D) (n : Int) (h : DAt w a d) (ht : There w a) (hn : n ≤ 9223372036854775807 ∧ -9223372036854775808 ≤ n) :
    Calls Tryd.prog 26 #[.pointer (some ⟨a.P, 0, none⟩), .int .i64 n] w (NoPost w a (d.stop n)) := by
  have HO := on_any w a d h
  have c1 := h.c.2.2.2
  have f1 := h.fr 3
  by_cases h0 : d.left = 0
  · have HS : Hid (Step w a (d.stop n) w) := Lib.hid (by unfold Dk.D.stop; rw [if_pos h0]; exact Step.quiet h ht (Below.refl _ _))
    have e1 : d.on = false := by unfold Dk.D.on; simp [h0]
    rw [e1] at HO
    clear h0 e1
    go_enter Tryd.func26, Tryd.ntmps26
    go_wp2_with fail
    refine HO.mono ?_
    rintro e w' ⟨rfl, rfl⟩
    go_wp2
    go_end0
    exact ⟨rfl, HS.out⟩
  · have HS : Hid (Step w a (d.stop n) (w.setCell ⟨a.P, 3, none⟩ (.int .i64 n))) := Lib.hid (by unfold Dk.D.stop; rw [if_neg h0]; exact step_left h ht n hn)
    have e1 : d.on = true := by unfold Dk.D.on; simp [h0]
    rw [e1] at HO
    clear h0 e1
    go_enter Tryd.func26, Tryd.ntmps26
    go_wp2_with fail
    refine HO.mono ?_
    rintro e w' ⟨rfl, rfl⟩
    go_wp2
    go_end0
    exact ⟨rfl, HS.out⟩

/-- The plan's next is taken away. -/
theorem step_next {w : World} {a : Mm} {d : Dk.D} (h : DAt w a d) (ht : There w a) (q : Bool) (r : List Bool) (hp : d.plan = q :: r) :
    Step w a { d with plan := r } (w.setCell ⟨a.P, 2, none⟩ (.slice (if a.cG = 1 then a.G else a.G.map (·.add 1)) r.length (a.cG - 1))) := by
  have hpl := h.plan (by rw [hp]; simp)
  obtain ⟨b, off, hG, hb, hblk, hc⟩ := hpl
  have hcap := h.cap
  rw [hp] at hcap
  simp only [List.length_cons] at hcap
  have hbl : ∀ x ∈ blkOf (if a.cG = 1 then a.G else a.G.map (·.add 1)), x = b := by
    intro x hx
    rw [hG] at hx
    split at hx
    · simpa [blkOf] using hx
    · simp only [Option.map_some, Addr.add_mid, blkOf, List.mem_singleton] at hx
      exact hx
  have hbo : BoC w (if a.cG = 1 then a.G else a.G.map (·.add 1)) r := fun hr => by
    rw [if_neg (by omega), hG]
    refine ⟨b, off + 1, by simp [Addr.add_mid], hb, hblk, fun k hk => ?_⟩
    have := hc (k + 1) (by rw [hp]; simpa using hk)
    rw [Nat.add_assoc, Nat.add_comm 1 k, this]
    simp [hp]
  have hmem : b ∈ a.F := (mem_F a _).2 (.inr (.inr (.inr (by rw [hG]; simp [blkOf]))))
  obtain ⟨a', h1, h2, h3, h4, h5⟩ := step_plan h ht _ (a.cG - 1) r hbo (by omega) (fun x hx => by rw [hbl x hx]; exact hb) w.heap.size (Nat.le_refl _) (fun x hx => .inl (by rw [hbl x hx]; exact hmem))
  exact ⟨a', h1, h2, h3, h4, (Out.refl _ _).setCell (.inl ((mem_F a _).2 (.inl rfl))) _, h5⟩
theorem Step.trans {w w1 w2 : World} {a : Mm} {d1 d2 : Dk.D} (h1 : Step w a d1 w1) (h2 : ∀ a1, a1.P = a.P → a1.k = a.k → DAt w1 a1 d1 → There w1 a1 → Step w1 a1 d2 w2) : Step w a d2 w2 := by
  obtain ⟨a1, p1, k1, at1, t1, o1, f1⟩ := h1
  obtain ⟨a2, p2, k2, at2, t2, o2, f2⟩ := h2 a1 p1 k1 at1 t1
  refine ⟨a2, p2.trans p1, k2.trans k1, at2, t2, o1.trans o2 f1, fun x hx => ?_⟩
  rcases f2 x hx with h | h
  · exact f1 x h
  · exact .inr (Nat.le_trans o1.size h)
def BoolPost (w : World) (a : Mm) (b : Bool) (d' : Dk.D) (e : Ending) (w' : World) : Prop := e = .returned (.bool b) ∧ Step w a d' w'

/-- Two steps of which the first leaves the disk where it was. -/
theorem Step.at {w w1 w2 : World} {a : Mm} {d1 d2 : Dk.D} (h1 : DAt w1 a d1 ∧ There w1 a ∧ Out a.F w w1) (h2 : DAt w1 a d1 → There w1 a → Step w1 a d2 w2) : Step w a d2 w2 := by
  obtain ⟨at1, t1, o1⟩ := h1
  obtain ⟨a2, p2, k2, at2, t2, o2, f2⟩ := h2 at1 t1
  refine ⟨a2, p2, k2, at2, t2, o1.trans o2 (fun _ hx => .inl hx), fun x hx => ?_⟩
  rcases f2 x hx with h | h
  · exact .inl h
  · exact .inr (Nat.le_trans o1.size h)
theorem at_left {w : World} {a : Mm} {d : Dk.D} (h : DAt w a d) (ht : There w a) (x : Int) (hx : x ≤ 9223372036854775807 ∧ -9223372036854775808 ≤ x) : DAt (w.setCell ⟨a.P, 3, none⟩ (.int .i64 x)) a { d with left := x } ∧ There (w.setCell ⟨a.P, 3, none⟩ (.int .i64 x)) a ∧ Out a.F w (w.setCell ⟨a.P, 3, none⟩ (.int .i64 x)) :=
  ⟨h.setP ht rfl rfl rfl rfl ⟨h.ok.n, h.ok.kept, h.ok.st⟩ (setP_heap h.disk 3 _) (fun y _ hy => setP_other w a.P 3 _ y hy) (own_past (d := d) h ht (fun y _ hy => setP_other w a.P 3 _ y hy) :) (h.plan.past h.disk (by decide) (fun y _ hy => setP_other w a.P 3 _ y hy)) h.cap hx,
    ht.setP _ _, (Out.refl _ _).setCell (.inl ((mem_F a _).2 (.inl rfl))) _⟩
theorem at_tick {w : World} {a : Mm} {d : Dk.D} (h : DAt w a d) (ht : There w a) : DAt (if 0 < d.left then w.setCell ⟨a.P, 3, none⟩ (.int .i64 (d.left - 1)) else w) a { d with left := Dk.tick d.left } ∧ There (if 0 < d.left then w.setCell ⟨a.P, 3, none⟩ (.int .i64 (d.left - 1)) else w) a ∧ Out a.F w (if 0 < d.left then w.setCell ⟨a.P, 3, none⟩ (.int .i64 (d.left - 1)) else w) := by
  unfold Dk.tick
  have hl := h.left
  by_cases hpos : 0 < d.left
  · rw [if_pos hpos, if_pos hpos]
    exact at_left h ht _ (by omega)
  · rw [if_neg hpos, if_neg hpos]
    exact ⟨h, ht, Out.refl _ _⟩
theorem at_step {w w1 : World} {a : Mm} {d : Dk.D} (h : DAt w1 a d ∧ There w1 a ∧ Out a.F w w1) : Step w a d w1 := ⟨a, rfl, rfl, h.1, h.2.1, h.2.2, fun _ hx => .inl hx⟩

set_option maxHeartbeats 800000 in
theorem fails_any (w : World) (a : Mm) (d : Dk.D) (h : DAt w a d) (ht : There w a) :
    Calls Tryd.prog 116 #[.pointer (some ⟨a.P, 0, none⟩)] w (BoolPost w a d.bad d.asked) := by
  have HO := on_any w a d h
  obtain ⟨c0, c1, c2, c3⟩ := h.c
  have f2 := h.fr 2
  have f3 := h.fr 3
  by_cases h0 : d.left = 0
  · have HS : Hid (Step w a d.asked w) := Lib.hid (by rw [Dk.asked_off d h0]; exact Step.quiet h ht (Below.refl _ _))
    have HB := Lib.hid (Dk.bad_off d h0)
    have e1 : d.on = false := by unfold Dk.D.on; simp [h0]
    rw [e1] at HO
    clear h0 e1
    go_enter Tryd.func116, Tryd.ntmps116
    go_wp2_with fail
    refine HO.mono ?_
    rintro e w' ⟨rfl, rfl⟩
    go_wp2
    go_ret
    exact ⟨ret_bool HB.out.symm, HS.out⟩
  · have e1 : d.on = true := by unfold Dk.D.on; simp [h0]
    rw [e1] at HO
    have HA := Lib.hid (Dk.asked_on d h0)
    have HB := Lib.hid (Dk.bad_on d h0)
    have hl := h.left
    have HT := at_tick h ht
    by_cases hpos : 0 < d.left
    all_goals
      first | rw [if_pos hpos] at HT | rw [if_neg hpos] at HT
      have HTT := Lib.hid HT
      clear HT
      clear e1 h0
      rcases hpl : d.plan with _ | ⟨q, r⟩
      · have HS : Hid (Step w a d.asked _) := Lib.hid (by
          rw [HA.out]
          rw [show d.plan.tail = d.plan by rw [hpl]; rfl]
          exact at_step HTT.out)
        rw [hpl] at HB c2
        rw [List.length_nil] at c2
        clear hpl
        go_enter Tryd.func116, Tryd.ntmps116
        go_wp2_with fail
        refine HO.mono ?_
        rintro e w' ⟨rfl, rfl⟩
        go_wp2
        go_ret
        exact ⟨ret_bool HB.out.symm, HS.out⟩
      · have hcap := h.cap
        have hpp := h.plan (by rw [hpl]; simp)
        obtain ⟨b, off, hG, hb, ⟨cb, frb, hblk⟩, hcell⟩ := hpp
        have hcc := hcell 0 (by rw [hpl]; simp)
        have hbP : b ≠ a.P := by
          intro e
          rw [e, h.disk] at hblk
          simp at hblk
        have hq : d.plan[0]'(by rw [hpl]; simp) = q := by simp [hpl]
        rw [hq, Nat.add_zero] at hcc
        rw [hpl] at hcap
        have HS : Hid (Step w a d.asked _) := Lib.hid (by
          rw [HA.out]
          exact Step.at HTT.out (fun at1 t1 => by rw [show d.plan.tail = r by rw [hpl]; rfl]; exact step_next at1 t1 q r hpl))
        rw [hpl] at HB c2
        rw [hG] at c2
        rw [hG] at HS
        simp only [Option.map_some, Addr.add_mid] at HS
        simp only [List.length_cons] at hcap c2
        obtain ⟨m, hm⟩ : ∃ m, m = r.length := ⟨_, rfl⟩
        rw [← hm] at hcap c2 HS
        obtain ⟨cg, hcg⟩ : ∃ cg, cg = a.cG := ⟨_, rfl⟩
        rw [← hcg] at hcap c2 HS
        obtain ⟨hcap1, hcap2⟩ := hcap
        clear hpl hm hcg hG hcell hq hblk
        by_cases hc1 : cg = 1
        · subst hc1
          have hm0 : m = 0 := by omega
          subst hm0
          go_enter Tryd.func116, Tryd.ntmps116
          go_wp2_with fail
          refine HO.mono ?_
          rintro e w' ⟨rfl, rfl⟩
          go_wp2
          go_ret
          exact ⟨ret_bool HB.out.symm, HS.out⟩
        · rw [if_neg hc1] at HS
          go_enter Tryd.func116, Tryd.ntmps116
          go_wp2_with fail
          refine HO.mono ?_
          rintro e w' ⟨rfl, rfl⟩
          go_wp2
          go_ret
          exact ⟨ret_bool HB.out.symm, HS.out⟩
end Go.Proofs.YtfceljbmdcbciaaDoor
