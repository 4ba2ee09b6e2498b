/- What follows of the plain functions on disks, for the statements: what blocks are behind writes, a sync, a crash. No condition. The disk's calls, for a seat whose statements do other things to it: how they change a disk of base or later; zeros behind a row of bytes; what is compared. No condition. -/
import Derived.Test.YtkmljbbnpjlehaaDoorMg00
import Derived.Test.YtkmljbbnpjlehaaDoorMg15
import Derived.Laws.IdiomStrings
import Derived.Lib.BufferRead
import Derived.Lib.SlBytesConst
import Derived.Lib.Strings
namespace Go.Proofs.YtkmljbbnpjlehaaDoor
set_option maxRecDepth 8000
namespace Dk

theorem splice_get (L : Bytes) (off : Nat) (cs : Bytes) (h : off + cs.length ≤ L.length) (q : Nat) : (splice L off cs)[q]? = if off ≤ q ∧ q < off + cs.length then cs[q - off]? else L[q]? := by
  unfold splice
  by_cases h1 : q < off
  · rw [List.getElem?_append_left (by rw [List.length_take]; omega), List.getElem?_take, if_pos h1, if_neg (by omega)]
  · rw [List.getElem?_append_right (by rw [List.length_take]; omega), List.length_take, Nat.min_eq_left (by omega)]
    by_cases h2 : q < off + cs.length
    · rw [List.getElem?_append_left (by omega), if_pos ⟨by omega, h2⟩]
    · rw [List.getElem?_append_right (by omega), List.getElem?_drop, if_neg (by omega)]
      congr 1
      omega
theorem lay_get {k : Bytes} {N : Nat} {s : Nat × Bytes} {n : Nat} (hk : k.length = 32 * N) (h1 : s.1 < N) (h2 : s.2.length = 32) (hn : n ≤ 32) (q : Nat) : (lay k s n)[q]? = if 32 * s.1 ≤ q ∧ q < 32 * s.1 + n then s.2[q - 32 * s.1]? else k[q]? := by
  unfold lay
  rw [splice_get _ _ _ (by rw [List.length_take]; omega), List.length_take, h2, Nat.min_eq_left hn]
  by_cases h : 32 * s.1 ≤ q ∧ q < 32 * s.1 + n
  · rw [if_pos h, if_pos h, List.getElem?_take, if_pos (by omega)]
  · rw [if_neg h, if_neg h]
theorem blk_get (k : Bytes) (j q : Nat) : (blk k j)[q]? = if q < 32 then k[32 * j + q]? else none := by
  unfold blk
  rw [List.getElem?_take]
  split
  · rw [List.getElem?_drop]
  · rfl
theorem blk_same {k : Bytes} {N i : Nat} {x : Bytes} (hk : k.length = 32 * N) (hi : i < N) (hx : x.length = 32) : blk (lay k (i, x) 32) i = x := by
  apply List.ext_getElem?
  intro q
  rw [blk_get]
  split
  · rw [lay_get hk hi hx (Nat.le_refl _), if_pos ⟨by show 32 * i ≤ _; omega, by show _ < 32 * i + 32; omega⟩]
    show x[32 * i + q - 32 * i]? = x[q]?
    congr 1
    omega
  · rw [List.getElem?_eq_none (by omega)]
theorem blk_other {k : Bytes} {N i j : Nat} {x : Bytes} {n : Nat} (hk : k.length = 32 * N) (hi : i < N) (hx : x.length = 32) (hn : n ≤ 32) (h : i ≠ j) : blk (lay k (i, x) n) j = blk k j := by
  apply List.ext_getElem?
  intro q
  rw [blk_get, blk_get]
  split
  · rw [lay_get hk hi hx hn, if_neg (by show ¬ (32 * i ≤ _ ∧ _ < 32 * i + n); omega)]
  · rfl

/-- A disk on which nothing fails. -/
theorem fresh_asked {d : D} (h1 : d.left < 0) (h2 : d.plan = []) : d.asked = d ∧ d.bad = false := by
  constructor
  · rw [asked_on d (by omega), h2]
    unfold tick
    rw [if_neg (by omega)]
    cases d
    simp_all
  · rw [bad_on d (by omega), h2]
    rfl
theorem fresh_write {d : D} (h1 : d.left < 0) (h2 : d.plan = []) (i : Int) (b : Bytes) (hb : b.length ≤ 32) :
    (i < 0 ∨ (d.n : Int) ≤ i → d.writeE i b = 4 ∧ d.write i b = d) ∧ (0 ≤ i → i < (d.n : Int) → d.writeE i b = 0 ∧ d.write i b = { d with st := d.st ++ [(i.toNat, pad b)] }) := by
  obtain ⟨e1, e2⟩ := fresh_asked h1 h2
  constructor
  · intro hi
    unfold D.writeE D.write
    rw [if_pos hi, if_pos hi]
    exact ⟨rfl, rfl⟩
  · intro hi hi2
    unfold D.writeE D.write
    have g1 : ¬ (i < 0 ∨ (d.n : Int) ≤ i) := by omega
    have g2 : ¬ 32 < b.length := by omega
    rw [if_neg g1, if_neg g1, if_neg g2, if_neg g2, e2, e1]
    exact ⟨rfl, rfl⟩
theorem fresh_sync {d : D} (h1 : d.left < 0) (h2 : d.plan = []) : d.syncE = 0 ∧ d.sync = { d with kept := layAll d.kept d.st, st := [] } := by
  obtain ⟨e1, e2⟩ := fresh_asked h1 h2
  unfold D.syncE D.sync
  rw [e2, e1]
  exact ⟨rfl, rfl⟩

/-- WHAT IS WRITTEN LAST LIES THERE. -/
structure Ord (n i k : Nat) (a b c : Bytes) (d : D) : Prop where
  st : d.st = []
  n : d.n = n
  x : blk d.kept i = pad b
  y : i ≠ k → blk d.kept k = pad c
theorem order_ok (bl : Int) (i k : Nat) (a b c : Bytes) (ha : a.length ≤ 32) (hb : b.length ≤ 32) (hc : c.length ≤ 32) (hi : i < (new bl).n) (hk : k < (new bl).n) :
    (new bl).writeE i a = 0 ∧ ((new bl).write i a).writeE k c = 0 ∧ (((new bl).write i a).write k c).writeE i b = 0 ∧ (((new bl).write i a).write k c |>.write i b).syncE = 0 ∧ Ord (new bl).n i k a b c ((((new bl).write i a).write k c).write i b).sync := by
  obtain ⟨d0, hd⟩ : ∃ d0, d0 = new bl := ⟨_, rfl⟩
  have hok : Ok d0 := by rw [hd]; exact ok_new bl
  have hl : d0.left < 0 := by rw [hd]; show (-1 : Int) < 0; omega
  have hp : d0.plan = [] := by rw [hd]; rfl
  have hs : d0.st = [] := by rw [hd]; rfl
  rw [← hd] at hi hk ⊢
  obtain ⟨e1, q1⟩ := (fresh_write hl hp (i : Int) a ha).2 (by omega) (by omega)
  rw [q1, hs]
  obtain ⟨e2, q2⟩ := (fresh_write (d := { d0 with st := [] ++ [((i : Int).toNat, pad a)] }) hl hp (k : Int) c hc).2 (by omega) (by show (k : Int) < (d0.n : Int); omega)
  rw [q2]
  obtain ⟨e3, q3⟩ := (fresh_write (d := { d0 with st := [] ++ [((i : Int).toNat, pad a)] ++ [((k : Int).toNat, pad c)] }) hl hp (i : Int) b hb).2 (by omega) (by show (i : Int) < (d0.n : Int); omega)
  rw [q3]
  obtain ⟨e4, q4⟩ := fresh_sync (d := { d0 with st := [] ++ [((i : Int).toNat, pad a)] ++ [((k : Int).toNat, pad c)] ++ [((i : Int).toNat, pad b)] }) hl hp
  rw [q4]
  refine ⟨e1, e2, e3, e4, rfl, rfl, ?_, ?_⟩
  · show blk (lay (lay (lay d0.kept ((i : Int).toNat, pad a) 32) ((k : Int).toNat, pad c) 32) ((i : Int).toNat, pad b) 32) i = pad b
    rw [Int.toNat_natCast, Int.toNat_natCast]
    exact blk_same (lay_ok 32 (lay_ok 32 hok.kept hi (pad_len a ha)) hk (pad_len c hc)) hi (pad_len b hb)
  · intro hne
    show blk (lay (lay (lay d0.kept ((i : Int).toNat, pad a) 32) ((k : Int).toNat, pad c) 32) ((i : Int).toNat, pad b) 32) k = pad c
    rw [Int.toNat_natCast, Int.toNat_natCast]
    rw [blk_other (lay_ok 32 (lay_ok 32 hok.kept hi (pad_len a ha)) hk (pad_len c hc)) hi (pad_len b hb) (Nat.le_refl _) hne]
    exact blk_same (lay_ok 32 hok.kept hi (pad_len a ha)) hk (pad_len c hc)
theorem order_n (bl : Int) (i k : Int) (a c : Bytes) : ((new bl).write i a).n = (new bl).n ∧ (((new bl).write i a).write k c).n = (new bl).n := by
  have h : ∀ (d : D) (i : Int) (b : Bytes), (d.write i b).n = d.n := fun d i b => by
    unfold D.write
    split
    · rfl
    · split
      · rfl
      · split
        · exact asked_n d
        · exact asked_n d
  exact ⟨h _ _ _, (h _ _ _).trans (h _ _ _)⟩
end Dk
end Go.Proofs.YtkmljbbnpjlehaaDoor
namespace Go.Proofs.YtkmljbbnpjlehaaDoor
set_option maxRecDepth 8000
open Go.RowKit

def I64 (x : Int) : Prop := x ≤ 9223372036854775807 ∧ -9223372036854775808 ≤ x
/-- Bytes, bools below a bound. -/
def BInB (w : World) (bd : Nat) (A : Option Addr) (l : List UInt8) : Prop := 0 < l.length → ∃ b off, A = some ⟨b, off, none⟩ ∧ b < bd ∧ ∀ k (h : k < l.length), w.cell? ⟨b, off + k, none⟩ = some (B l[k])
def PInB (w : World) (bd : Nat) (A : Option Addr) (cap : Nat) (p : List Bool) : Prop := (A = none → p = [] ∧ cap = 0) ∧ (0 < p.length → ∃ b off, A = some ⟨b, off, none⟩ ∧ b < bd ∧ ∀ k (h : k < p.length), w.cell? ⟨b, off + k, none⟩ = some (.bool p[k]))
theorem BInB.keep {w w' : World} {bd : Nat} {A : Option Addr} {l : List UInt8} (h : BInB w bd A l) (hb : Below bd w w') : BInB w' bd A l := fun hn => by
  obtain ⟨b, off, e, hlt, hc⟩ := h hn
  exact ⟨b, off, e, hlt, fun k hk => (hb.cell (p := ⟨b, off + k, none⟩) hlt).trans (hc k hk)⟩
theorem PInB.keep {w w' : World} {bd : Nat} {A : Option Addr} {cap : Nat} {l : List Bool} (h : PInB w bd A cap l) (hb : Below bd w w') : PInB w' bd A cap l := ⟨h.1, fun hn => by
  obtain ⟨b, off, e, hlt, hc⟩ := h.2 hn
  exact ⟨b, off, e, hlt, fun k hk => (hb.cell (p := ⟨b, off + k, none⟩) hlt).trans (hc k hk)⟩⟩
theorem BInB.bin {w : World} {bd : Nat} {A : Option Addr} {l : List UInt8} (h : BInB w bd A l) (hb : bd ≤ w.heap.size) : BIn w A l := fun hn => by
  obtain ⟨b, off, e, hlt, hc⟩ := h hn
  exact ⟨b, off, e, by omega, hc⟩
/-- A disk that lies in block base or later. -/
def SD (base : Nat) (w : World) (P : Nat) (d : Dk.D) : Prop := ∃ a : Mm, a.P = P ∧ DAt w a d ∧ There w a ∧ ∀ x ∈ a.F, base ≤ x
theorem Step.sd {w w' : World} {a : Mm} {d' : Dk.D} {base : Nat} (h : Step w a d' w') (hF : ∀ x ∈ a.F, base ≤ x) (hb : base ≤ w.heap.size) : SD base w' a.P d' ∧ Below base w w' := by
  obtain ⟨a', p, _, at', t', o, f⟩ := h
  refine ⟨⟨a', p, at', t', fun x hx => ?_⟩, o.below hF hb⟩
  rcases f x hx with h | h
  · exact hF x h
  · exact Nat.le_trans hb h
theorem SD.keep {base : Nat} {w w' : World} {P : Nat} {d : Dk.D} (h : SD base w P d) (hb : Below w.heap.size w w') : SD base w' P d := by
  obtain ⟨a, p, h1, h2, h3⟩ := h
  exact ⟨a, p, h1.same (fun b hb' => hb.block b (h2.all b hb')), h2.more hb.size, h3⟩
theorem MadePost.sd {w w' : World} {d : Dk.D} {e : Ending} (h : MadePost w d e w') : ∃ P, e = .returned (.pointer (some ⟨P, 0, none⟩)) ∧ SD w.heap.size w' P d ∧ Below w.heap.size w w' := by
  obtain ⟨a, e1, h1, h2, h3, h4⟩ := h
  exact ⟨a.P, e1, ⟨a, rfl, h1, h2, h4⟩, h3⟩
def IntSD (base : Nat) (w : World) (P : Nat) (x : Int) (d' : Dk.D) (e : Ending) (w' : World) : Prop := e = .returned (.int .i64 x) ∧ SD base w' P d' ∧ Below base w w'
def NoSD (base : Nat) (w : World) (P : Nat) (d' : Dk.D) (e : Ending) (w' : World) : Prop := e = .returned (.tuple #[]) ∧ SD base w' P d' ∧ Below base w w'
section
variable {base : Nat} {w : World} {P : Nat} {d : Dk.D}
theorem write_sd (h : SD base w P d) (hb : base ≤ w.heap.size) (hst : d.st.length ≤ 1048575) (i : Int) (A : Option Addr) (cap : Nat) (l : List UInt8) (hl : l.length ≤ 9223372036854775807) (hA : BInB w base A l) :
    Calls Tryd.prog 110 #[.pointer (some ⟨P, 0, none⟩), .int .i64 i, .slice A l.length cap] w (IntSD base w P (d.writeE i l) (d.write i l)) := by
  obtain ⟨a, rfl, h1, h2, h3⟩ := h
  refine (write_any w a d i A cap l h1 h2 hst hl (hA.bin hb) (fun hn ad e hx => ?_)).mono ?_
  · obtain ⟨b, off, e2, hlt, _⟩ := hA hn
    have h5 := h3 _ hx
    rw [e] at e2
    injection e2 with e2
    rw [e2] at h5
    dsimp only at h5
    omega
  · rintro e w' ⟨rfl, hs⟩
    exact ⟨rfl, hs.sd h3 hb⟩
theorem sync_sd (h : SD base w P d) (hb : base ≤ w.heap.size) (hst : d.st.length ≤ 1048576) :
    Calls Tryd.prog 108 #[.pointer (some ⟨P, 0, none⟩)] w (IntSD base w P d.syncE d.sync) := by
  obtain ⟨a, rfl, h1, h2, h3⟩ := h
  exact (sync_any w a d h1 h2 hst).mono (by rintro e w' ⟨rfl, hs⟩; exact ⟨rfl, hs.sd h3 hb⟩)
theorem drop_sd (h : SD base w P d) (hb : base ≤ w.heap.size) : Calls Tryd.prog 113 #[.pointer (some ⟨P, 0, none⟩)] w (NoSD base w P d.drop) := by
  obtain ⟨a, rfl, h1, h2, h3⟩ := h
  exact (drop_any w a d h1 h2).mono (by rintro e w' ⟨rfl, hs⟩; exact ⟨rfl, hs.sd h3 hb⟩)
theorem stop_sd (h : SD base w P d) (hb : base ≤ w.heap.size) (n : Int) (hn : I64 n) : Calls Tryd.prog 34 #[.pointer (some ⟨P, 0, none⟩), .int .i64 n] w (NoSD base w P (d.stop n)) := by
  obtain ⟨a, rfl, h1, h2, h3⟩ := h
  exact (stop_any w a d n h1 h2 hn).mono (by rintro e w' ⟨rfl, hs⟩; exact ⟨rfl, hs.sd h3 hb⟩)
theorem faults_sd (h : SD base w P d) (hb : base ≤ w.heap.size) (A : Option Addr) (cap : Nat) (p : List Bool) (hp : PlanIn w A cap p) : Calls Tryd.prog 37 #[.pointer (some ⟨P, 0, none⟩), .slice A p.length cap] w (NoSD base w P { d with plan := p }) := by
  obtain ⟨a, rfl, h1, h2, h3⟩ := h
  exact (faults_any w a d A cap p h1 h2 hp).mono (by rintro e w' ⟨rfl, hs⟩; exact ⟨rfl, hs.sd h3 hb⟩)
theorem crash_sd (h : SD base w P d) (hb : base ≤ w.heap.size) (hst : d.st.length ≤ 1048576) (A : Option Addr) (cap : Nat) (l : List UInt8) (hl : l.length ≤ 9223372036854775807) (hA : BInB w base A l) :
    Calls Tryd.prog 35 #[.pointer (some ⟨P, 0, none⟩), .slice A l.length cap] w (NoSD base w P (d.crash l)) := by
  obtain ⟨a, rfl, h1, h2, h3⟩ := h
  refine (crash_any w a d A cap l h1 h2 hst hl (hA.bin hb) (fun hn ad e hx => ?_)).mono ?_
  · obtain ⟨b, off, e2, hlt, _⟩ := hA hn
    have h5 := h3 _ hx
    rw [e] at e2
    injection e2 with e2
    rw [e2] at h5
    dsimp only at h5
    omega
  · rintro e w' ⟨rfl, hs⟩
    exact ⟨rfl, hs.sd h3 hb⟩
end
theorem alloc_at {w : World} {a : Mm} {d : Dk.D} (h : DAt w a d) (ht : There w a) (o : Obj) : DAt (w.alloc o) a d ∧ There (w.alloc o) a := ⟨h.same (fun b hb => Below.heap_alloc w o b (ht.all b hb)), ht.more (by simp)⟩
theorem lit_in (w : World) (l : List UInt8) (cs : Array Value) (fr : Nat × Nat) (n : Nat) (hn : n = w.heap.size) (hc : cs = (bcs l).toArray) : BIn (w.alloc (.cells cs 5 fr)) (some ⟨n, 0, none⟩) l := fun _ =>
  ⟨n, 0, rfl, by rw [hn]; simp, fun k hk => by
    rw [hn, Nat.zero_add, cell_of_row _ w.heap.size k _ _ _ (heap_alloc_new w _), hc]
    simp [bcs, hk]⟩
theorem own_cell {w : World} {base : Nat} {A : Option Addr} {cap : Nat} {l : List UInt8} (h : w.ownsRow base 5 1 (.slice A l.length cap) l.length (bcs l)) (hn : 0 < l.length) : ∃ g, A = some ⟨g, 0, none⟩ ∧ g < w.heap.size ∧ base ≤ g ∧ ∀ k (hk : k < l.length), w.cell? ⟨g, k, none⟩ = some (B l[k]) := by
  obtain ⟨A', cap', e, _, _, hA, hblk⟩ := own_form h
  injection e with e1 _ _
  obtain ⟨g, hg⟩ := hA hn
  rw [hg] at e1
  have hb := hblk g (by rw [hg]; simp [blkOf])
  refine ⟨g, e1, hb.2.1, hb.1, fun k hk => ?_⟩
  have := h.cells (g := g) (by rw [e1]; rfl) k (B l[k]) (by simp [bcs, hk])
  rw [Addr.add_mid, Nat.zero_add] at this
  exact this
theorem zeroCells_one (z : Value) (n : Nat) : Builtin.zeroCells #[z] n = (List.replicate n z).toArray := by
  apply Array.ext'
  apply List.ext_getElem?
  intro j
  by_cases hj : j < n
  · simp [Builtin.zeroCells, hj, Nat.mod_one]
  · simp [Builtin.zeroCells, hj]
theorem run_append_zeros (w : World) (ty : TypeId) (base g n cap m : Nat) (xs : List Value) (hown : w.ownsRow base 5 1 (.slice (some ⟨g, 0, none⟩) n cap) n xs) (hnm : n + m ≤ 1048576) (hbase : base ≤ w.heap.size) :
    ∃ v' w', (Builtin.append_ #[36, 3] ty #[.slice (some ⟨g, 0, none⟩) n cap, .int .i64 (m : Int)]).run Tryd.prog w = .ok v' w' ∧ w'.ownsRow base 5 1 v' (n + m) (xs ++ List.replicate m (Value.int .u8 0)) ∧ w.grownBy w' (some g) := by
  obtain ⟨i0, hi0, hz0, hz1, hz2⟩ := info_parts Tryd.infoByte
  have ht := Tryd.underlying36
  have hti := Tryd.underlying3
  have hw : IntKind.i64.wrap (m : Int) = (m : Int) := IntWalk.i64_in _ (by omega)
  have hlen : (xs ++ List.replicate m (Value.int .u8 0)).length = (n + m) * 1 := by rw [List.length_append, hown.1, List.length_replicate, Nat.add_mul]; omega
  rcases hown.2 with ⟨hv, _⟩ | ⟨g', cap', cur, hv, hbg, hg, hnc, hcm, hcs, htake⟩
  · cases hv
  · injection hv with e1 e2 e3
    injection e1 with e1
    injection e1 with e1 _ _
    subst e1 e3
    have hm0 : ¬ (m : Int) < 0 := by omega
    have hm48 : ¬ (281474976710656 < (m : Int)) := by omega
    have happ : ∀ w1 : World, (if m * 1 = 0 then (pure #[] : Sem (Array Value)) else pure (Builtin.zeroCells #[Value.int .u8 0] m)).run Tryd.prog w1 = .ok (List.replicate m (Value.int .u8 0)).toArray w1 := by
      intro w1
      by_cases h0 : m = 0
      · subst h0; simp
      · rw [if_neg (by omega), zeroCells_one]; rfl
    by_cases hroom : n + m ≤ cap
    · have hst := run_storeCells_at Tryd.prog g n 5 (List.replicate m (Value.int .u8 0)) 0 cur w hg (by rw [List.length_replicate]; omega) (fun v hv => by rw [List.eq_of_mem_replicate hv]; rfl)
      simp only [Nat.add_zero] at hst
      refine ⟨.slice (some ⟨g, 0, none⟩) (n + m) cap, w.setRow g (cur.toList.take n ++ List.replicate m (Value.int .u8 0) ++ cur.toList.drop (n + (List.replicate m (Value.int .u8 0)).length)).toArray, ?_, ⟨hlen, .inr ⟨g, cap, _, rfl, hbg, setRow_heap w g cur _ _ _ hg, hroom, hcm, ?_, ?_⟩⟩, ⟨rfl, rfl, rfl, by simp, fun k _ hk => setRow_other w g k _ (fun e => hk (by rw [e]))⟩⟩
      · by_cases h0 : m = 0
        · subst h0
          have hw0 : IntKind.i64.wrap 0 = 0 := rfl
          simp [Builtin.append_, run_underlying ht, run_underlying hti, asInt, asIntOf, sizeOf, typeInfo, hi0, hz2, hw0, hnc, storeCells]
          rw [setRow_self w g cur _ _ hg]
        · simp [Builtin.append_, run_underlying ht, run_underlying hti, asInt, asIntOf, sizeOf, typeInfo, zeroValue, hi0, hz0, hz1, hz2, hw, hm0, hm48, hroom, h0, Value.cells, zeroCells_one, Addr.add_lit]
          rw [hst]
          simp
      · simp; omega
      · rw [List.append_assoc, ← List.append_assoc]
        have e : cur.toList.take n = xs := by rw [← htake, Nat.mul_one]
        rw [e, List.take_left' (by rw [hlen])]
    · have hfit := growslice_fits (need := n + m) (old := cap) (bytes := 1) (by omega) (by omega)
      have h48' : ¬ (281474976710656 < Builtin.nextslicecap (n + m) cap) := by omega
      have h63' : ¬ (9223372036854775807 < ((n : Int) + (m : Int))) := by omega
      have holds : ∀ j u, xs[j]? = some u → w.cell? ((⟨g, 0, none⟩ : Addr).add j) = some u := hown.cells (g := g) rfl
      have hfo := run_firstCells_some (P := Tryd.prog) w.drew 1 n ⟨g, 0, none⟩ n cap xs (by rw [hown.1]) (by simpa using holds)
      have hm1 : ¬ m = 0 := by omega
      have hge := grownCap_ge w (n + m) cap 5
      have hcm2 : grownCap w (n + m) cap 5 ≤ maxLen := grownCap_le_maxLen w (n + m) cap 5 (by unfold maxLen; omega)
      refine ⟨.slice (some ⟨w.heap.size, 0, none⟩) (n + m) (grownCap w (n + m) cap 5), w.drew.alloc (.cells (xs.toArray ++ (List.replicate m (Value.int .u8 0)).toArray ++ Builtin.zeroCells #[Value.int .u8 0] (grownCap w (n + m) cap 5 - (n + m))) 5), ?_, ⟨hlen, .inr ⟨w.heap.size, _, _, rfl, hbase, heap_alloc_new w.drew _, hge, hcm2, ?_, ?_⟩⟩, ⟨rfl, rfl, rfl, by simp, fun k hk _ => Below.heap_alloc w.drew _ k hk⟩⟩
      · simp [Builtin.append_, run_underlying ht, run_underlying hti, asInt, asIntOf, sizeOf, typeInfo, zeroValue, hi0, hz0, hz1, hz2, hw, hm0, hm48, hroom, hm1, h48', h63', Question.forced, hfo, newRow, grownCap, Value.cells, zeroCells_one]
      · have h1 := hown.1
        simp [Builtin.zeroCells]
        omega
      · simp only [Array.toList_append, List.append_assoc]
        rw [← List.append_assoc, ← hlen]
        exact List.take_left
theorem read_sd {base : Nat} {w : World} {P : Nat} {d : Dk.D} (h : SD base w P d) (hst : d.st.length ≤ 1048576) (j : Nat) (hj : j < d.n) : Calls Tryd.prog 93 #[.pointer (some ⟨P, 0, none⟩), .int .i64 (j : Int)] w (ReadPost w (Dk.seen j (Dk.blk d.kept j) d.st)) := by
  obtain ⟨a, rfl, h1, h2, _⟩ := h
  exact read_any w a d j h1 h2 hj hst
theorem staged_sd {base : Nat} {w : World} {P : Nat} {d : Dk.D} (h : SD base w P d) : Calls Tryd.prog 23 #[.pointer (some ⟨P, 0, none⟩)] w fun e w' => e = .returned (.int .i64 d.st.length) ∧ w = w' := by
  obtain ⟨a, rfl, h1, _, _⟩ := h
  exact staged_any w a d h1
theorem made_sd {base : Nat} {w w' : World} {d : Dk.D} {e : Ending} (hb : base ≤ w.heap.size) (h : MadePost w d e w') : ∃ P, e = .returned (.pointer (some ⟨P, 0, none⟩)) ∧ SD base w' P d ∧ Below w.heap.size w w' := by
  obtain ⟨P, e1, ⟨a, h0, h1, h2, h3⟩, h4⟩ := h.sd
  exact ⟨P, e1, ⟨a, h0, h1, h2, fun x hx => Nat.le_trans hb (h3 x hx)⟩, h4⟩
theorem new_n (m : Nat) (h : m ≤ 512) : (Dk.new (m : Int)).n = m := by show (min (max (m : Int) 0) 512).toNat = m; omega
theorem wpList_append_zeros {w : World} {ops : Array Oper} {rest : List Oper} {o : Oper} {a : Act} {Q : Exit → Act → World → Prop} (hgd : o.guard = none) (s x : Operand)
    (ho : o.op = .call { callee := .builtin .append, args := #[s, x], argTypes := #[36, 3] })
    (base g n cap m : Nat) (xs : List Value) (hs : a.eval s = .slice (some ⟨g, 0, none⟩) n cap) (hx : a.eval x = .int .i64 (m : Int)) (hown : w.ownsRow base 5 1 (.slice (some ⟨g, 0, none⟩) n cap) n xs) (hnm : n + m ≤ 1048576) (hbase : base ≤ w.heap.size)
    (h : ∀ v' w', w'.ownsRow base 5 1 v' (n + m) (xs ++ List.replicate m (.int .u8 0)) → w.grownBy w' (some g) → wpList Tryd.prog ops Q rest (a.put o.dst v') w') : wpList Tryd.prog ops Q (o :: rest) a w := by
  refine wpList_plain hgd fun K hK => ?_
  obtain ⟨v', w', hr, h2, h3⟩ := run_append_zeros w o.type base g n cap m xs hown hnm hbase
  unfold Oper.wp execOp
  simp only [ho, resolve, invoke, builtin, Sem.run_bind, Sem.run_pure, Result.andThen_ok, List.map_toArray, List.map_cons, List.map_nil, hs, hx, hr]
  exact hK _ _ (h v' w' h2 h3)
theorem bcs_pad (l : List UInt8) : bcs l ++ List.replicate (32 - l.length) (.int .u8 0) = bcs (Dk.pad l) := by
  unfold Dk.pad bcs
  rw [List.map_append, List.map_replicate]
  rfl
theorem cB_in {w : World} {g : Nat} {l : List UInt8} {t : TypeId} (h : w.heap[g]? = some (.cells (cB l) t (0, 0))) : BIn w (some ⟨g, 0, none⟩) l := fun _ =>
  ⟨g, 0, rfl, lt_of_blk' h, fun k hk => by
    rw [Nat.zero_add, cell_of_row w g k _ _ _ h]
    simp [cB, bcs, hk]⟩
theorem own_in {w : World} {base : Nat} {A : Option Addr} {cap n : Nat} {l : List UInt8} (h : w.ownsRow base 5 1 (.slice A n cap) n (bcs l)) : BIn w A l := fun hn => by
  have e : n = l.length := by have := h.1; rw [bcs_len] at this; omega
  subst e
  obtain ⟨g, rfl, h1, _, h2⟩ := own_cell h hn
  exact ⟨g, 0, rfl, h1, fun k hk => by rw [Nat.zero_add]; exact h2 k hk⟩
theorem BIn.keep {w w' : World} {A : Option Addr} {l : List UInt8} (h : BIn w A l) (hb : Below w.heap.size w w') : BIn w' A l := fun hn => by
  obtain ⟨b, off, e, hlt, hc⟩ := h hn
  exact ⟨b, off, e, Nat.lt_of_lt_of_le hlt hb.size, fun k hk => (hb.cell (p := ⟨b, off + k, none⟩) hlt).trans (hc k hk)⟩
theorem own_some {w : World} {base : Nat} {e : TypeId} {size n : Nat} {v : Value} {xs : List Value} (h : w.ownsRow base e size v n xs) (hv : v.ownBlock ≠ none) : ∃ g cap, v = .slice (some ⟨g, 0, none⟩) n cap ∧ base ≤ g ∧ g < w.heap.size := by
  rcases h.2 with ⟨rfl, _⟩ | ⟨g, cap, cur, rfl, hb, hg, _⟩
  · exact absurd rfl hv
  · exact ⟨g, cap, rfl, hb, lt_of_blk' hg⟩
theorem own_keep {w w' : World} {base : Nat} {g cap n : Nat} {xs : List Value} (h : w.ownsRow base 5 1 (.slice (some ⟨g, 0, none⟩) n cap) n xs) (hb : Below w.heap.size w w') : w'.ownsRow base 5 1 (.slice (some ⟨g, 0, none⟩) n cap) n xs :=
  own_block h (fun b hb' => by
    obtain ⟨cur, hc⟩ := own_lt h b hb'
    exact hb.block b (lt_of_blk' hc))
/-- A disk in block base or later, none of whose blocks is one of X. -/
def SE (X : List Nat) (base : Nat) (w : World) (P : Nat) (d : Dk.D) : Prop := ∃ a : Mm, a.P = P ∧ DAt w a d ∧ There w a ∧ (∀ x ∈ a.F, base ≤ x) ∧ ∀ x ∈ X, x < w.heap.size ∧ x ∉ a.F
def SameX (X : List Nat) (w w' : World) : Prop := ∀ x ∈ X, w'.heap[x]? = w.heap[x]?
theorem SE.sd {X : List Nat} {base : Nat} {w : World} {P : Nat} {d : Dk.D} (h : SE X base w P d) : SD base w P d := by
  obtain ⟨a, p, h1, h2, h3, _⟩ := h
  exact ⟨a, p, h1, h2, h3⟩
theorem SD.se {base : Nat} {w : World} {P : Nat} {d : Dk.D} (h : SD base w P d) : SE [] base w P d := by
  obtain ⟨a, p, h1, h2, h3⟩ := h
  exact ⟨a, p, h1, h2, h3, fun x hx => by cases hx⟩
/-- A block that is made beside the disk is none of its. -/
theorem SE.add {X : List Nat} {base : Nat} {w w' : World} {P : Nat} {d : Dk.D} (h : SE X base w P d) (hb : Below w.heap.size w w') (Y : List Nat) (hY : ∀ y ∈ Y, w.heap.size ≤ y ∧ y < w'.heap.size) : SE (Y ++ X) base w' P d ∧ SameX X w w' := by
  obtain ⟨a, p, h1, h2, h3, h4⟩ := h
  refine ⟨⟨a, p, h1.same (fun b hb' => hb.block b (h2.all b hb')), h2.more hb.size, h3, fun x hx => ?_⟩, fun x hx => hb.block x (h4 x hx).1⟩
  rcases List.mem_append.1 hx with hx | hx
  · exact ⟨(hY x hx).2, fun hm => by have := h2.all x hm; have := (hY x hx).1; omega⟩
  · exact ⟨Nat.lt_of_lt_of_le (h4 x hx).1 hb.size, (h4 x hx).2⟩
theorem SE.keep {X : List Nat} {base : Nat} {w w' : World} {P : Nat} {d : Dk.D} (h : SE X base w P d) (hb : Below w.heap.size w w') : SE X base w' P d ∧ SameX X w w' := h.add hb [] (fun y hy => by cases hy)
theorem Step.se {X : List Nat} {w w' : World} {a : Mm} {d' : Dk.D} {base : Nat} (h : Step w a d' w') (hF : ∀ x ∈ a.F, base ≤ x) (hb : base ≤ w.heap.size) (hX : ∀ x ∈ X, x < w.heap.size ∧ x ∉ a.F) : SE X base w' a.P d' ∧ Below base w w' ∧ SameX X w w' := by
  obtain ⟨a', p, _, at', t', o, f⟩ := h
  refine ⟨⟨a', p, at', t', fun x hx => ?_, fun x hx => ⟨Nat.lt_of_lt_of_le (hX x hx).1 o.size, fun hm => ?_⟩⟩, o.below hF hb, fun x hx => o.block x (hX x hx).1 (hX x hx).2⟩
  · rcases f x hx with h | h
    · exact hF x h
    · exact Nat.le_trans hb h
  · rcases f x hm with h | h
    · exact (hX x hx).2 h
    · have := (hX x hx).1
      omega
theorem SameX.trans {X : List Nat} {a b c : World} (h : SameX X a b) (k : SameX X b c) : SameX X a c := fun x hx => (k x hx).trans (h x hx)
theorem SameX.refl (X : List Nat) (a : World) : SameX X a a := fun _ _ => rfl
theorem SameX.sub {X Y : List Nat} {a b : World} (h : SameX X a b) (hs : ∀ x ∈ Y, x ∈ X) : SameX Y a b := fun x hx => h x (hs x hx)
theorem BIn.sameX {w w' : World} {A : Option Addr} {l : List UInt8} (h : BIn w A l) (hs : SameX (blkOf A) w w') (hz : w.heap.size ≤ w'.heap.size) : BIn w' A l := fun hn => by
  obtain ⟨b, off, rfl, hlt, hc⟩ := h hn
  exact ⟨b, off, rfl, Nat.lt_of_lt_of_le hlt hz, fun k hk => (World.cell?_of_block (w := w) (w' := w') (a := ⟨b, off + k, none⟩) (hs b (by simp [blkOf]))).trans (hc k hk)⟩
def IntSE (X : List Nat) (base : Nat) (w : World) (P : Nat) (x : Int) (d' : Dk.D) (e : Ending) (w' : World) : Prop := e = .returned (.int .i64 x) ∧ SE X base w' P d' ∧ Below base w w' ∧ SameX X w w'
def NoSE (X : List Nat) (base : Nat) (w : World) (P : Nat) (d' : Dk.D) (e : Ending) (w' : World) : Prop := e = .returned (.tuple #[]) ∧ SE X base w' P d' ∧ Below base w w' ∧ SameX X w w'
section
variable {X : List Nat} {base : Nat} {w : World} {P : Nat} {d : Dk.D}
theorem write_se (h : SE X base w P d) (hb : base ≤ w.heap.size) (hst : d.st.length ≤ 1048575) (i : Int) (A : Option Addr) (cap : Nat) (l : List UInt8) (hl : l.length ≤ 9223372036854775807) (hA : BInB w base A l) :
    Calls Tryd.prog 110 #[.pointer (some ⟨P, 0, none⟩), .int .i64 i, .slice A l.length cap] w (IntSE X base w P (d.writeE i l) (d.write i l)) := by
  obtain ⟨a, rfl, h1, h2, h3, h4⟩ := h
  refine (write_any w a d i A cap l h1 h2 hst hl (hA.bin hb) (fun hn ad e hx => ?_)).mono ?_
  · obtain ⟨b, off, e2, hlt, _⟩ := hA hn
    have h5 := h3 _ hx
    rw [e] at e2
    injection e2 with e2
    rw [e2] at h5
    dsimp only at h5
    omega
  · rintro e w' ⟨rfl, hs⟩
    exact ⟨rfl, hs.se h3 hb h4⟩
theorem sync_se (h : SE X base w P d) (hb : base ≤ w.heap.size) (hst : d.st.length ≤ 1048576) :
    Calls Tryd.prog 108 #[.pointer (some ⟨P, 0, none⟩)] w (IntSE X base w P d.syncE d.sync) := by
  obtain ⟨a, rfl, h1, h2, h3, h4⟩ := h
  exact (sync_any w a d h1 h2 hst).mono (by rintro e w' ⟨rfl, hs⟩; exact ⟨rfl, hs.se h3 hb h4⟩)
theorem faults_se (h : SE X base w P d) (hb : base ≤ w.heap.size) (A : Option Addr) (cap : Nat) (p : List Bool) (hp : PlanIn w A cap p) : Calls Tryd.prog 37 #[.pointer (some ⟨P, 0, none⟩), .slice A p.length cap] w (NoSE X base w P { d with plan := p }) := by
  obtain ⟨a, rfl, h1, h2, h3, h4⟩ := h
  exact (faults_any w a d A cap p h1 h2 hp).mono (by rintro e w' ⟨rfl, hs⟩; exact ⟨rfl, hs.se h3 hb h4⟩)
theorem crash_se (h : SE X base w P d) (hb : base ≤ w.heap.size) (hst : d.st.length ≤ 1048576) (A : Option Addr) (cap : Nat) (l : List UInt8) (hl : l.length ≤ 9223372036854775807) (hA : BInB w base A l) :
    Calls Tryd.prog 35 #[.pointer (some ⟨P, 0, none⟩), .slice A l.length cap] w (NoSE X base w P (d.crash l)) := by
  obtain ⟨a, rfl, h1, h2, h3, h4⟩ := h
  refine (crash_any w a d A cap l h1 h2 hst hl (hA.bin hb) (fun hn ad e hx => ?_)).mono ?_
  · obtain ⟨b, off, e2, hlt, _⟩ := hA hn
    have h5 := h3 _ hx
    rw [e] at e2
    injection e2 with e2
    rw [e2] at h5
    dsimp only at h5
    omega
  · rintro e w' ⟨rfl, hs⟩
    exact ⟨rfl, hs.se h3 hb h4⟩
end
/-- What Bytes answers lies in blocks of its own. -/
theorem byrow_new {w w' : World} {A : Option Addr} {c : Nat} {l : List UInt8} (h : w'.ownsRow w.heap.size 5 1 (.slice A l.length c) l.length (bcs l)) : ∀ y ∈ blkOf A, w.heap.size ≤ y ∧ y < w'.heap.size := by
  obtain ⟨A', cap, e, _, _, _, hb⟩ := own_form h
  injection e with e1 _ _
  rw [e1]
  exact fun y hy => ⟨(hb y hy).1, (hb y hy).2.1⟩
theorem on_sd {base : Nat} {w : World} {P : Nat} {d : Dk.D} (h : SD base w P d) : Calls Tryd.prog 73 #[.pointer (some ⟨P, 0, none⟩)] w fun e w' => e = .returned (.bool d.on) ∧ w = w' := by
  obtain ⟨a, rfl, h1, _, _⟩ := h
  exact on_any w a d h1
theorem len_sd {base : Nat} {w : World} {P : Nat} {d : Dk.D} (h : SD base w P d) : Calls Tryd.prog 58 #[.pointer (some ⟨P, 0, none⟩)] w fun e w' => e = .returned (.int .i64 d.n) ∧ w = w' := by
  obtain ⟨a, rfl, h1, _, _⟩ := h
  exact len_any w a d h1
theorem bytes_sd {base : Nat} {w : World} {P : Nat} {d : Dk.D} (h : SD base w P d) : Calls Tryd.prog 31 #[.pointer (some ⟨P, 0, none⟩)] w (BytesPost w d.kept) := by
  obtain ⟨a, rfl, h1, h2, _⟩ := h
  exact bytes_any w a d h1 h2
theorem SD.ok {base : Nat} {w : World} {P : Nat} {d : Dk.D} (h : SD base w P d) : Dk.Ok d := by
  obtain ⟨a, rfl, h1, _, _⟩ := h
  exact h1.ok
theorem SD.base {base base' : Nat} {w : World} {P : Nat} {d : Dk.D} (h : SD base' w P d) (hb : base ≤ base') : SD base w P d := by
  obtain ⟨a, p, h1, h2, h3⟩ := h
  exact ⟨a, p, h1, h2, fun x hx => Nat.le_trans hb (h3 x hx)⟩
namespace Dk
theorem off_sync {d : D} (h : d.left = 0) : d.syncE = 21 ∧ d.sync = d := by
  unfold D.syncE D.sync
  rw [bad_off d h, asked_off d h]
  exact ⟨rfl, rfl⟩
theorem off_drop {d : D} (h : d.left = 0) : d.drop = d := by unfold D.drop; rw [if_pos h]
theorem off_write {d : D} (h : d.left = 0) (i : Int) (b : Bytes) (hb : b.length ≤ 32) : d.writeE i b ≠ 0 ∧ d.write i b = d := by
  unfold D.writeE D.write
  have g2 : ¬ 32 < b.length := by omega
  rw [if_neg g2, if_neg g2, bad_off d h, asked_off d h]
  split
  · exact ⟨by omega, rfl⟩
  · exact ⟨by show (21 : Int) ≠ 0; omega, rfl⟩
theorem plan_sync {d : D} (r : List Bool) (h1 : d.left = -1) (h2 : d.plan = true :: r) : d.syncE = 21 ∧ d.sync = { d with plan := r } := by
  have e1 : d.bad = true := by rw [bad_on d (by omega), h2]; rfl
  have e2 : d.asked = { d with plan := r } := by
    rw [asked_on d (by omega), h2, h1]
    unfold tick
    rw [if_neg (by omega), ← h1]
    rfl
  unfold D.syncE D.sync
  rw [e1, e2]
  exact ⟨rfl, rfl⟩
theorem plan_write {d : D} (q : Bool) (r : List Bool) (h1 : d.left = -1) (h2 : d.plan = q :: r) (i : Int) (b : Bytes) (hb : b.length ≤ 32) (hi : 0 ≤ i ∧ i < (d.n : Int)) :
    d.writeE i b = (if q then 21 else 0) ∧ d.write i b = (if q then { d with plan := r } else { d with plan := r, st := d.st ++ [(i.toNat, pad b)] }) := by
  have e1 : d.bad = q := by rw [bad_on d (by omega), h2]; rfl
  have e2 : d.asked = { d with plan := r } := by
    rw [asked_on d (by omega), h2, h1]
    unfold tick
    rw [if_neg (by omega), ← h1]
    rfl
  have g1 : ¬ (i < 0 ∨ (d.n : Int) ≤ i) := by omega
  have g2 : ¬ 32 < b.length := by omega
  unfold D.writeE D.write
  rw [if_neg g1, if_neg g1, if_neg g2, if_neg g2, e1, e2]
  exact ⟨rfl, rfl⟩
theorem bad_write {d : D} (i : Int) (b : Bytes) (hi : i < 0 ∨ (d.n : Int) ≤ i) : d.writeE i b = 4 ∧ d.write i b = d := by
  unfold D.writeE D.write
  rw [if_pos hi, if_pos hi]
  exact ⟨rfl, rfl⟩
end Dk
theorem own_cap {w : World} {base : Nat} {e : TypeId} {size n c : Nat} {A : Option Addr} {xs : List Value} (h : w.ownsRow base e size (.slice A n c) n xs) : n ≤ c ∧ c ≤ 9223372036854775807 := by
  obtain ⟨_, cp, e, h1, h2, _, _⟩ := own_form h
  injection e with _ _ e
  rw [← e] at h1 h2
  exact ⟨h1, by unfold maxLen at h2; omega⟩
theorem below_drewN {B : Nat} {a w : World} (h : Below B a w) (n : Nat) : Below B a (w.drewN n) := ⟨h.os, h.tape, h.output, h.size, h.block⟩
namespace Dk
theorem crash_none (d : D) : d.crash [] = ⟨d.n, d.kept, [], [], -1⟩ := by
  unfold D.crash
  rw [layCut_end [] d.st 0 d.kept (by simp)]
end Dk
theorem crash_nil_sd {base : Nat} {w : World} {P : Nat} {d : Dk.D} (h : SD base w P d) (hb : base ≤ w.heap.size) (hst : d.st.length ≤ 1048576) :
    Calls Tryd.prog 35 #[.pointer (some ⟨P, 0, none⟩), .slice none 0 0] w (NoSD base w P ⟨d.n, d.kept, [], [], -1⟩) := by
  have := crash_sd h hb hst none 0 [] (by simp) (fun h => absurd h (by simp))
  rw [Dk.crash_none] at this
  exact this
end Go.Proofs.YtkmljbbnpjlehaaDoor
