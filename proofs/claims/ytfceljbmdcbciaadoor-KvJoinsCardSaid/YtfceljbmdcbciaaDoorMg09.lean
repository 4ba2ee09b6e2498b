/- Plain functions on disks (what is kept, what is staged, the plan, the calls that are left) and what follows of them; no program stands in it. No condition. What follows of the plain functions on disks, for the statements: what blocks are behind writes, a sync, a crash. No condition. -/
import Derived.Laws.CopyOwn
namespace Go.Proofs.YtfceljbmdcbciaaDoor
set_option maxRecDepth 8000
namespace Dk

abbrev Bytes := List UInt8
/-- n blocks of 32 bytes, all of them in one list. -/
structure D where
  n : Nat
  kept : Bytes
  st : List (Nat × Bytes)
  plan : List Bool
  left : Int

/-- Its parts fit. -/
structure Ok (d : D) : Prop where
  n : d.n ≤ 512
  kept : d.kept.length = 32 * d.n
  st : ∀ s ∈ d.st, s.1 < d.n ∧ s.2.length = 32

def pad (b : Bytes) : Bytes := b ++ List.replicate (32 - b.length) 0
theorem pad_len (b : Bytes) (h : b.length ≤ 32) : (pad b).length = 32 := by simp [pad]; omega
def D.on (d : D) : Bool := decide (d.left ≠ 0)
def tick (x : Int) : Int := if 0 < x then x - 1 else x
/-- The plan's next, where the disk is on. -/
def D.bad (d : D) : Bool := if d.left = 0 then true else d.plan.headD false
def D.asked (d : D) : D := if d.left = 0 then d else { d with plan := d.plan.tail, left := tick d.left }
def D.writeE (d : D) (i : Int) (b : Bytes) : Int :=
  if i < 0 ∨ (d.n : Int) ≤ i then 4 else if 32 < b.length then 2 else if d.bad then 21 else 0
def D.write (d : D) (i : Int) (b : Bytes) : D :=
  if i < 0 ∨ (d.n : Int) ≤ i then d else if 32 < b.length then d else if d.bad then d.asked else { d.asked with st := d.st ++ [(i.toNat, pad b)] }
/-- The first n bytes of a staged block are kept. -/
def lay (k : Bytes) (s : Nat × Bytes) (n : Nat) : Bytes := splice k (32 * s.1) (s.2.take n)
def layAll (k : Bytes) (l : List (Nat × Bytes)) : Bytes := l.foldl (fun k s => lay k s 32) k
def D.syncE (d : D) : Int := if d.bad then 21 else 0
def D.sync (d : D) : D := if d.bad then d.asked else { d.asked with kept := layAll d.kept d.st, st := [] }
def D.drop (d : D) : D := if d.left = 0 then d else { d with st := [] }
def D.stop (d : D) (n : Int) : D := if d.left = 0 then d else { d with left := n }
def cutAt (cuts : Bytes) (j : Nat) : Nat := if h : j < cuts.length then cuts[j].toNat % 33 else 0
def layCut (cuts : Bytes) : Nat → Bytes → List (Nat × Bytes) → Bytes
  | _, k, [] => k
  | j, k, s :: r => layCut cuts (j + 1) (lay k s (cutAt cuts j)) r
def D.crash (d : D) (cuts : Bytes) : D := { d with kept := layCut cuts 0 d.kept d.st, st := [], plan := [], left := -1 }
def blk (k : Bytes) (i : Nat) : Bytes := (k.drop (32 * i)).take 32
def seen (i : Nat) (b : Bytes) (l : List (Nat × Bytes)) : Bytes := l.foldl (fun b s => if s.1 = i then s.2 else b) b
def D.read (d : D) (i : Int) : Bytes := if i < 0 ∨ (d.n : Int) ≤ i then [] else seen i.toNat (blk d.kept i.toNat) d.st
def new (n : Int) : D := ⟨(min (max n 0) 512).toNat, List.replicate (32 * (min (max n 0) 512).toNat) 0, [], [], -1⟩
def opened (b : Bytes) : D := ⟨min (b.length / 32) 512, b.take (32 * min (b.length / 32) 512), [], [], -1⟩

theorem lay_len (k : Bytes) (s : Nat × Bytes) (n : Nat) (h : 32 * s.1 + (s.2.take n).length ≤ k.length) : (lay k s n).length = k.length := length_splice _ _ _ h
theorem lay_ok {k : Bytes} {s : Nat × Bytes} {N : Nat} (n : Nat) (hk : k.length = 32 * N) (h1 : s.1 < N) (h2 : s.2.length = 32) : (lay k s n).length = 32 * N := by
  rw [lay_len, hk]
  rw [List.length_take]
  omega
theorem layAll_snoc (k : Bytes) (l : List (Nat × Bytes)) (s : Nat × Bytes) : layAll k (l ++ [s]) = lay (layAll k l) s 32 := by unfold layAll; rw [List.foldl_append]; rfl
theorem layAll_ok {N : Nat} : ∀ (l : List (Nat × Bytes)) (k : Bytes), k.length = 32 * N → (∀ s ∈ l, s.1 < N ∧ s.2.length = 32) → (layAll k l).length = 32 * N
  | [], k, hk, _ => hk
  | s :: r, k, hk, h => layAll_ok r (lay k s 32) (lay_ok 32 hk (h s (by simp)).1 (h s (by simp)).2) (fun x hx => h x (by simp [hx]))
theorem layCut_ok {N : Nat} (cuts : Bytes) : ∀ (l : List (Nat × Bytes)) (j : Nat) (k : Bytes), k.length = 32 * N → (∀ s ∈ l, s.1 < N ∧ s.2.length = 32) → (layCut cuts j k l).length = 32 * N
  | [], _, k, hk, _ => hk
  | s :: r, j, k, hk, h => layCut_ok cuts r (j + 1) (lay k s _) (lay_ok _ hk (h s (by simp)).1 (h s (by simp)).2) (fun x hx => h x (by simp [hx]))
theorem layCut_snoc (cuts : Bytes) : ∀ (l : List (Nat × Bytes)) (j : Nat) (k : Bytes) (s : Nat × Bytes), layCut cuts j k (l ++ [s]) = lay (layCut cuts j k l) s (cutAt cuts (j + l.length))
  | [], _, _, _ => rfl
  | x :: r, j, k, s => by
    rw [List.cons_append]
    show layCut cuts (j + 1) (lay k x _) (r ++ [s]) = _
    rw [layCut_snoc cuts r (j + 1) _ s, List.length_cons, show j + 1 + r.length = j + (r.length + 1) by omega]
    rfl
theorem lay_zero (k : Bytes) (s : Nat × Bytes) : lay k s 0 = k := by simp [lay, splice]
/-- Behind the end of the cuts nothing is laid. -/
theorem layCut_end (cuts : Bytes) : ∀ (l : List (Nat × Bytes)) (j : Nat) (k : Bytes), cuts.length ≤ j → layCut cuts j k l = k
  | [], _, _, _ => rfl
  | s :: r, j, k, h => by
    show layCut cuts (j + 1) (lay k s (cutAt cuts j)) r = k
    have : cutAt cuts j = 0 := by unfold cutAt; rw [dif_neg (by omega)]
    rw [this, lay_zero, layCut_end cuts r (j + 1) k (by omega)]
theorem layCut_take (cuts : Bytes) : ∀ (l : List (Nat × Bytes)) (j : Nat) (k : Bytes), layCut cuts j k (l.take (cuts.length - j)) = layCut cuts j k l
  | [], _, _ => by rw [List.take_nil]
  | s :: r, j, k => by
    by_cases h : cuts.length ≤ j
    · rw [layCut_end _ _ _ _ h, layCut_end _ _ _ _ h]
    · rw [show cuts.length - j = (cuts.length - (j + 1)) + 1 by omega, List.take_succ_cons]
      exact layCut_take cuts r (j + 1) _
theorem blk_len {k : Bytes} {N i : Nat} (hk : k.length = 32 * N) (h : i < N) : (blk k i).length = 32 := by unfold blk; rw [List.length_take, List.length_drop]; omega
theorem seen_snoc (i : Nat) (b : Bytes) (l : List (Nat × Bytes)) (s : Nat × Bytes) : seen i b (l ++ [s]) = if s.1 = i then s.2 else seen i b l := by unfold seen; rw [List.foldl_append]; rfl
theorem seen_ok (i : Nat) : ∀ (l : List (Nat × Bytes)) (b : Bytes), b.length = 32 → (∀ s ∈ l, s.2.length = 32) → (seen i b l).length = 32
  | [], b, hb, _ => hb
  | s :: r, b, hb, h => by
    show (seen i (if s.1 = i then s.2 else b) r).length = 32
    refine seen_ok i r _ ?_ (fun x hx => h x (by simp [hx]))
    split
    · exact h s (by simp)
    · exact hb

theorem Ok.asked {d : D} (h : Ok d) : Ok d.asked := by
  unfold D.asked
  split
  · exact h
  · exact ⟨h.n, h.kept, h.st⟩
theorem asked_n (d : D) : d.asked.n = d.n := by unfold D.asked; split <;> rfl
theorem asked_kept (d : D) : d.asked.kept = d.kept := by unfold D.asked; split <;> rfl
theorem asked_st (d : D) : d.asked.st = d.st := by unfold D.asked; split <;> rfl
theorem asked_on (d : D) (h : d.left ≠ 0) : d.asked = { d with plan := d.plan.tail, left := tick d.left } := by unfold D.asked; rw [if_neg h]
theorem asked_off (d : D) (h : d.left = 0) : d.asked = d := by unfold D.asked; rw [if_pos h]
theorem bad_off (d : D) (h : d.left = 0) : d.bad = true := by unfold D.bad; rw [if_pos h]
theorem bad_on (d : D) (h : d.left ≠ 0) : d.bad = d.plan.headD false := by unfold D.bad; rw [if_neg h]
theorem Ok.write {d : D} (h : Ok d) (i : Int) (b : Bytes) : Ok (d.write i b) := by
  unfold D.write
  split
  · exact h
  · split
    · exact h
    · split
      · exact h.asked
      · refine ⟨by rw [asked_n]; exact h.n, by rw [asked_n, asked_kept]; exact h.kept, ?_⟩
        intro s hs
        rw [asked_n]
        rcases List.mem_append.1 hs with hs | hs
        · exact h.st s hs
        · rw [List.mem_singleton] at hs
          subst hs
          exact ⟨by show i.toNat < d.n; omega, pad_len b (by omega)⟩
theorem Ok.sync {d : D} (h : Ok d) : Ok d.sync := by
  unfold D.sync
  split
  · exact h.asked
  · exact ⟨by rw [asked_n]; exact h.n, by rw [asked_n]; exact layAll_ok _ _ h.kept h.st, fun s hs => by cases hs⟩
theorem Ok.drop {d : D} (h : Ok d) : Ok d.drop := by
  unfold D.drop
  split
  · exact h
  · exact ⟨h.n, h.kept, fun s hs => by cases hs⟩
theorem Ok.stop {d : D} (h : Ok d) (n : Int) : Ok (d.stop n) := by
  unfold D.stop
  split
  · exact h
  · exact ⟨h.n, h.kept, h.st⟩
theorem Ok.plan {d : D} (h : Ok d) (p : List Bool) : Ok { d with plan := p } := ⟨h.n, h.kept, h.st⟩
theorem Ok.crash {d : D} (h : Ok d) (cuts : Bytes) : Ok (d.crash cuts) := ⟨h.n, layCut_ok cuts _ _ _ h.kept h.st, fun s hs => by cases hs⟩
theorem ok_new (n : Int) : Ok (new n) := ⟨by show (min (max n 0) 512).toNat ≤ 512; omega, by simp [new], fun s hs => by cases hs⟩
theorem ok_opened (b : Bytes) : Ok (opened b) := ⟨by show min _ 512 ≤ 512; omega, by simp [opened]; omega, fun s hs => by cases hs⟩
end Dk
end Go.Proofs.YtfceljbmdcbciaaDoor
namespace Go.Proofs.YtfceljbmdcbciaaDoor
set_option maxRecDepth 8000
namespace Dk

theorem splice_get (L : Bytes) (off : Nat) (cs : Bytes) (h : off + cs.length ≤ L.length) (q : Nat) : (splice L off cs)[q]? = if off ≤ q ∧ q < off + cs.length then cs[q - off]? else L[q]? := by
  unfold splice
  by_cases h1 : q < off
  · rw [List.getElem?_append_left (by rw [List.length_take]; omega), List.getElem?_take, if_pos h1, if_neg (by omega)]
  · rw [List.getElem?_append_right (by rw [List.length_take]; omega), List.length_take, Nat.min_eq_left (by omega)]
    by_cases h2 : q < off + cs.length
    · rw [List.getElem?_append_left (by omega), if_pos ⟨by omega, h2⟩]
    · rw [List.getElem?_append_right (by omega), List.getElem?_drop, if_neg (by omega)]
      congr 1
      omega
theorem lay_get {k : Bytes} {N : Nat} {s : Nat × Bytes} {n : Nat} (hk : k.length = 32 * N) (h1 : s.1 < N) (h2 : s.2.length = 32) (hn : n ≤ 32) (q : Nat) : (lay k s n)[q]? = if 32 * s.1 ≤ q ∧ q < 32 * s.1 + n then s.2[q - 32 * s.1]? else k[q]? := by
  unfold lay
  rw [splice_get _ _ _ (by rw [List.length_take]; omega), List.length_take, h2, Nat.min_eq_left hn]
  by_cases h : 32 * s.1 ≤ q ∧ q < 32 * s.1 + n
  · rw [if_pos h, if_pos h, List.getElem?_take, if_pos (by omega)]
  · rw [if_neg h, if_neg h]
theorem blk_get (k : Bytes) (j q : Nat) : (blk k j)[q]? = if q < 32 then k[32 * j + q]? else none := by
  unfold blk
  rw [List.getElem?_take]
  split
  · rw [List.getElem?_drop]
  · rfl
theorem blk_same {k : Bytes} {N i : Nat} {x : Bytes} (hk : k.length = 32 * N) (hi : i < N) (hx : x.length = 32) : blk (lay k (i, x) 32) i = x := by
  apply List.ext_getElem?
  intro q
  rw [blk_get]
  split
  · rw [lay_get hk hi hx (Nat.le_refl _), if_pos ⟨by show 32 * i ≤ _; omega, by show _ < 32 * i + 32; omega⟩]
    show x[32 * i + q - 32 * i]? = x[q]?
    congr 1
    omega
  · rw [List.getElem?_eq_none (by omega)]
theorem blk_other {k : Bytes} {N i j : Nat} {x : Bytes} {n : Nat} (hk : k.length = 32 * N) (hi : i < N) (hx : x.length = 32) (hn : n ≤ 32) (h : i ≠ j) : blk (lay k (i, x) n) j = blk k j := by
  apply List.ext_getElem?
  intro q
  rw [blk_get, blk_get]
  split
  · rw [lay_get hk hi hx hn, if_neg (by show ¬ (32 * i ≤ _ ∧ _ < 32 * i + n); omega)]
  · rfl

/-- A disk on which nothing fails. -/
theorem fresh_asked {d : D} (h1 : d.left < 0) (h2 : d.plan = []) : d.asked = d ∧ d.bad = false := by
  constructor
  · rw [asked_on d (by omega), h2]
    unfold tick
    rw [if_neg (by omega)]
    cases d
    simp_all
  · rw [bad_on d (by omega), h2]
    rfl
theorem fresh_write {d : D} (h1 : d.left < 0) (h2 : d.plan = []) (i : Int) (b : Bytes) (hb : b.length ≤ 32) :
    (i < 0 ∨ (d.n : Int) ≤ i → d.writeE i b = 4 ∧ d.write i b = d) ∧ (0 ≤ i → i < (d.n : Int) → d.writeE i b = 0 ∧ d.write i b = { d with st := d.st ++ [(i.toNat, pad b)] }) := by
  obtain ⟨e1, e2⟩ := fresh_asked h1 h2
  constructor
  · intro hi
    unfold D.writeE D.write
    rw [if_pos hi, if_pos hi]
    exact ⟨rfl, rfl⟩
  · intro hi hi2
    unfold D.writeE D.write
    have g1 : ¬ (i < 0 ∨ (d.n : Int) ≤ i) := by omega
    have g2 : ¬ 32 < b.length := by omega
    rw [if_neg g1, if_neg g1, if_neg g2, if_neg g2, e2, e1]
    exact ⟨rfl, rfl⟩
theorem fresh_sync {d : D} (h1 : d.left < 0) (h2 : d.plan = []) : d.syncE = 0 ∧ d.sync = { d with kept := layAll d.kept d.st, st := [] } := by
  obtain ⟨e1, e2⟩ := fresh_asked h1 h2
  unfold D.syncE D.sync
  rw [e2, e1]
  exact ⟨rfl, rfl⟩

/-- WHAT IS WRITTEN LAST LIES THERE. -/
structure Ord (n i k : Nat) (a b c : Bytes) (d : D) : Prop where
  st : d.st = []
  n : d.n = n
  x : blk d.kept i = pad b
  y : i ≠ k → blk d.kept k = pad c
theorem order_ok (bl : Int) (i k : Nat) (a b c : Bytes) (ha : a.length ≤ 32) (hb : b.length ≤ 32) (hc : c.length ≤ 32) (hi : i < (new bl).n) (hk : k < (new bl).n) :
    (new bl).writeE i a = 0 ∧ ((new bl).write i a).writeE k c = 0 ∧ (((new bl).write i a).write k c).writeE i b = 0 ∧ (((new bl).write i a).write k c |>.write i b).syncE = 0 ∧ Ord (new bl).n i k a b c ((((new bl).write i a).write k c).write i b).sync := by
  obtain ⟨d0, hd⟩ : ∃ d0, d0 = new bl := ⟨_, rfl⟩
  have hok : Ok d0 := by rw [hd]; exact ok_new bl
  have hl : d0.left < 0 := by rw [hd]; show (-1 : Int) < 0; omega
  have hp : d0.plan = [] := by rw [hd]; rfl
  have hs : d0.st = [] := by rw [hd]; rfl
  rw [← hd] at hi hk ⊢
  obtain ⟨e1, q1⟩ := (fresh_write hl hp (i : Int) a ha).2 (by omega) (by omega)
  rw [q1, hs]
  obtain ⟨e2, q2⟩ := (fresh_write (d := { d0 with st := [] ++ [((i : Int).toNat, pad a)] }) hl hp (k : Int) c hc).2 (by omega) (by show (k : Int) < (d0.n : Int); omega)
  rw [q2]
  obtain ⟨e3, q3⟩ := (fresh_write (d := { d0 with st := [] ++ [((i : Int).toNat, pad a)] ++ [((k : Int).toNat, pad c)] }) hl hp (i : Int) b hb).2 (by omega) (by show (i : Int) < (d0.n : Int); omega)
  rw [q3]
  obtain ⟨e4, q4⟩ := fresh_sync (d := { d0 with st := [] ++ [((i : Int).toNat, pad a)] ++ [((k : Int).toNat, pad c)] ++ [((i : Int).toNat, pad b)] }) hl hp
  rw [q4]
  refine ⟨e1, e2, e3, e4, rfl, rfl, ?_, ?_⟩
  · show blk (lay (lay (lay d0.kept ((i : Int).toNat, pad a) 32) ((k : Int).toNat, pad c) 32) ((i : Int).toNat, pad b) 32) i = pad b
    rw [Int.toNat_natCast, Int.toNat_natCast]
    exact blk_same (lay_ok 32 (lay_ok 32 hok.kept hi (pad_len a ha)) hk (pad_len c hc)) hi (pad_len b hb)
  · intro hne
    show blk (lay (lay (lay d0.kept ((i : Int).toNat, pad a) 32) ((k : Int).toNat, pad c) 32) ((i : Int).toNat, pad b) 32) k = pad c
    rw [Int.toNat_natCast, Int.toNat_natCast]
    rw [blk_other (lay_ok 32 (lay_ok 32 hok.kept hi (pad_len a ha)) hk (pad_len c hc)) hi (pad_len b hb) (Nat.le_refl _) hne]
    exact blk_same (lay_ok 32 hok.kept hi (pad_len a ha)) hk (pad_len c hc)
theorem order_n (bl : Int) (i k : Int) (a c : Bytes) : ((new bl).write i a).n = (new bl).n ∧ (((new bl).write i a).write k c).n = (new bl).n := by
  have h : ∀ (d : D) (i : Int) (b : Bytes), (d.write i b).n = d.n := fun d i b => by
    unfold D.write
    split
    · rfl
    · split
      · rfl
      · split
        · exact asked_n d
        · exact asked_n d
  exact ⟨h _ _ _, (h _ _ _).trans (h _ _ _)⟩
end Dk
end Go.Proofs.YtfceljbmdcbciaaDoor
