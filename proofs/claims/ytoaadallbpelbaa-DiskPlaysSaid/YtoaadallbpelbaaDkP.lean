/- Plain functions on disks (what is kept, what is staged, the plan, the calls that are left) and what follows of them; no program stands in it. No condition. -/
import Derived.Laws.CopyOwn
namespace Go.Proofs.Ytoaadallbpelbaa
set_option maxRecDepth 8000
namespace Dk

abbrev Bytes := List UInt8
/-- n blocks of 32 bytes, all of them in one list. -/
structure D where
  n : Nat
  kept : Bytes
  st : List (Nat × Bytes)
  plan : List Bool
  left : Int

/-- Its parts fit. -/
structure Ok (d : D) : Prop where
  n : d.n ≤ 512
  kept : d.kept.length = 32 * d.n
  st : ∀ s ∈ d.st, s.1 < d.n ∧ s.2.length = 32

def pad (b : Bytes) : Bytes := b ++ List.replicate (32 - b.length) 0
theorem pad_len (b : Bytes) (h : b.length ≤ 32) : (pad b).length = 32 := by simp [pad]; omega
def D.on (d : D) : Bool := decide (d.left ≠ 0)
def tick (x : Int) : Int := if 0 < x then x - 1 else x
/-- The plan's next, where the disk is on. -/
def D.bad (d : D) : Bool := if d.left = 0 then true else d.plan.headD false
def D.asked (d : D) : D := if d.left = 0 then d else { d with plan := d.plan.tail, left := tick d.left }
def D.writeE (d : D) (i : Int) (b : Bytes) : Int :=
  if i < 0 ∨ (d.n : Int) ≤ i then 4 else if 32 < b.length then 2 else if d.bad then 21 else 0
def D.write (d : D) (i : Int) (b : Bytes) : D :=
  if i < 0 ∨ (d.n : Int) ≤ i then d else if 32 < b.length then d else if d.bad then d.asked else { d.asked with st := d.st ++ [(i.toNat, pad b)] }
/-- The first n bytes of a staged block are kept. -/
def lay (k : Bytes) (s : Nat × Bytes) (n : Nat) : Bytes := splice k (32 * s.1) (s.2.take n)
def layAll (k : Bytes) (l : List (Nat × Bytes)) : Bytes := l.foldl (fun k s => lay k s 32) k
def D.syncE (d : D) : Int := if d.bad then 21 else 0
def D.sync (d : D) : D := if d.bad then d.asked else { d.asked with kept := layAll d.kept d.st, st := [] }
def D.drop (d : D) : D := if d.left = 0 then d else { d with st := [] }
def D.stop (d : D) (n : Int) : D := if d.left = 0 then d else { d with left := n }
def cutAt (cuts : Bytes) (j : Nat) : Nat := if h : j < cuts.length then cuts[j].toNat % 33 else 0
def layCut (cuts : Bytes) : Nat → Bytes → List (Nat × Bytes) → Bytes
  | _, k, [] => k
  | j, k, s :: r => layCut cuts (j + 1) (lay k s (cutAt cuts j)) r
def D.crash (d : D) (cuts : Bytes) : D := { d with kept := layCut cuts 0 d.kept d.st, st := [], plan := [], left := -1 }
def blk (k : Bytes) (i : Nat) : Bytes := (k.drop (32 * i)).take 32
def seen (i : Nat) (b : Bytes) (l : List (Nat × Bytes)) : Bytes := l.foldl (fun b s => if s.1 = i then s.2 else b) b
def D.read (d : D) (i : Int) : Bytes := if i < 0 ∨ (d.n : Int) ≤ i then [] else seen i.toNat (blk d.kept i.toNat) d.st
def new (n : Int) : D := ⟨(min (max n 0) 512).toNat, List.replicate (32 * (min (max n 0) 512).toNat) 0, [], [], -1⟩
def opened (b : Bytes) : D := ⟨min (b.length / 32) 512, b.take (32 * min (b.length / 32) 512), [], [], -1⟩

theorem lay_len (k : Bytes) (s : Nat × Bytes) (n : Nat) (h : 32 * s.1 + (s.2.take n).length ≤ k.length) : (lay k s n).length = k.length := length_splice _ _ _ h
theorem lay_ok {k : Bytes} {s : Nat × Bytes} {N : Nat} (n : Nat) (hk : k.length = 32 * N) (h1 : s.1 < N) (h2 : s.2.length = 32) : (lay k s n).length = 32 * N := by
  rw [lay_len, hk]
  rw [List.length_take]
  omega
theorem layAll_snoc (k : Bytes) (l : List (Nat × Bytes)) (s : Nat × Bytes) : layAll k (l ++ [s]) = lay (layAll k l) s 32 := by unfold layAll; rw [List.foldl_append]; rfl
theorem layAll_ok {N : Nat} : ∀ (l : List (Nat × Bytes)) (k : Bytes), k.length = 32 * N → (∀ s ∈ l, s.1 < N ∧ s.2.length = 32) → (layAll k l).length = 32 * N
  | [], k, hk, _ => hk
  | s :: r, k, hk, h => layAll_ok r (lay k s 32) (lay_ok 32 hk (h s (by simp)).1 (h s (by simp)).2) (fun x hx => h x (by simp [hx]))
theorem layCut_ok {N : Nat} (cuts : Bytes) : ∀ (l : List (Nat × Bytes)) (j : Nat) (k : Bytes), k.length = 32 * N → (∀ s ∈ l, s.1 < N ∧ s.2.length = 32) → (layCut cuts j k l).length = 32 * N
  | [], _, k, hk, _ => hk
  | s :: r, j, k, hk, h => layCut_ok cuts r (j + 1) (lay k s _) (lay_ok _ hk (h s (by simp)).1 (h s (by simp)).2) (fun x hx => h x (by simp [hx]))
theorem layCut_snoc (cuts : Bytes) : ∀ (l : List (Nat × Bytes)) (j : Nat) (k : Bytes) (s : Nat × Bytes), layCut cuts j k (l ++ [s]) = lay (layCut cuts j k l) s (cutAt cuts (j + l.length))
  | [], _, _, _ => rfl
  | x :: r, j, k, s => by
    rw [List.cons_append]
    show layCut cuts (j + 1) (lay k x _) (r ++ [s]) = _
    rw [layCut_snoc cuts r (j + 1) _ s, List.length_cons, show j + 1 + r.length = j + (r.length + 1) by omega]
    rfl
theorem lay_zero (k : Bytes) (s : Nat × Bytes) : lay k s 0 = k := by simp [lay, splice]
/-- Behind the end of the cuts nothing is laid. -/
theorem layCut_end (cuts : Bytes) : ∀ (l : List (Nat × Bytes)) (j : Nat) (k : Bytes), cuts.length ≤ j → layCut cuts j k l = k
  | [], _, _, _ => rfl
  | s :: r, j, k, h => by
    show layCut cuts (j + 1) (lay k s (cutAt cuts j)) r = k
    have : cutAt cuts j = 0 := by unfold cutAt; rw [dif_neg (by omega)]
    rw [this, lay_zero, layCut_end cuts r (j + 1) k (by omega)]
theorem layCut_take (cuts : Bytes) : ∀ (l : List (Nat × Bytes)) (j : Nat) (k : Bytes), layCut cuts j k (l.take (cuts.length - j)) = layCut cuts j k l
  | [], _, _ => by rw [List.take_nil]
  | s :: r, j, k => by
    by_cases h : cuts.length ≤ j
    · rw [layCut_end _ _ _ _ h, layCut_end _ _ _ _ h]
    · rw [show cuts.length - j = (cuts.length - (j + 1)) + 1 by omega, List.take_succ_cons]
      exact layCut_take cuts r (j + 1) _
theorem blk_len {k : Bytes} {N i : Nat} (hk : k.length = 32 * N) (h : i < N) : (blk k i).length = 32 := by unfold blk; rw [List.length_take, List.length_drop]; omega
theorem seen_snoc (i : Nat) (b : Bytes) (l : List (Nat × Bytes)) (s : Nat × Bytes) : seen i b (l ++ [s]) = if s.1 = i then s.2 else seen i b l := by unfold seen; rw [List.foldl_append]; rfl
theorem seen_ok (i : Nat) : ∀ (l : List (Nat × Bytes)) (b : Bytes), b.length = 32 → (∀ s ∈ l, s.2.length = 32) → (seen i b l).length = 32
  | [], b, hb, _ => hb
  | s :: r, b, hb, h => by
    show (seen i (if s.1 = i then s.2 else b) r).length = 32
    refine seen_ok i r _ ?_ (fun x hx => h x (by simp [hx]))
    split
    · exact h s (by simp)
    · exact hb

theorem Ok.asked {d : D} (h : Ok d) : Ok d.asked := by
  unfold D.asked
  split
  · exact h
  · exact ⟨h.n, h.kept, h.st⟩
theorem asked_n (d : D) : d.asked.n = d.n := by unfold D.asked; split <;> rfl
theorem asked_kept (d : D) : d.asked.kept = d.kept := by unfold D.asked; split <;> rfl
theorem asked_st (d : D) : d.asked.st = d.st := by unfold D.asked; split <;> rfl
theorem asked_on (d : D) (h : d.left ≠ 0) : d.asked = { d with plan := d.plan.tail, left := tick d.left } := by unfold D.asked; rw [if_neg h]
theorem asked_off (d : D) (h : d.left = 0) : d.asked = d := by unfold D.asked; rw [if_pos h]
theorem bad_off (d : D) (h : d.left = 0) : d.bad = true := by unfold D.bad; rw [if_pos h]
theorem bad_on (d : D) (h : d.left ≠ 0) : d.bad = d.plan.headD false := by unfold D.bad; rw [if_neg h]
theorem Ok.write {d : D} (h : Ok d) (i : Int) (b : Bytes) : Ok (d.write i b) := by
  unfold D.write
  split
  · exact h
  · split
    · exact h
    · split
      · exact h.asked
      · refine ⟨by rw [asked_n]; exact h.n, by rw [asked_n, asked_kept]; exact h.kept, ?_⟩
        intro s hs
        rw [asked_n]
        rcases List.mem_append.1 hs with hs | hs
        · exact h.st s hs
        · rw [List.mem_singleton] at hs
          subst hs
          exact ⟨by show i.toNat < d.n; omega, pad_len b (by omega)⟩
theorem Ok.sync {d : D} (h : Ok d) : Ok d.sync := by
  unfold D.sync
  split
  · exact h.asked
  · exact ⟨by rw [asked_n]; exact h.n, by rw [asked_n]; exact layAll_ok _ _ h.kept h.st, fun s hs => by cases hs⟩
theorem Ok.drop {d : D} (h : Ok d) : Ok d.drop := by
  unfold D.drop
  split
  · exact h
  · exact ⟨h.n, h.kept, fun s hs => by cases hs⟩
theorem Ok.stop {d : D} (h : Ok d) (n : Int) : Ok (d.stop n) := by
  unfold D.stop
  split
  · exact h
  · exact ⟨h.n, h.kept, h.st⟩
theorem Ok.plan {d : D} (h : Ok d) (p : List Bool) : Ok { d with plan := p } := ⟨h.n, h.kept, h.st⟩
theorem Ok.crash {d : D} (h : Ok d) (cuts : Bytes) : Ok (d.crash cuts) := ⟨h.n, layCut_ok cuts _ _ _ h.kept h.st, fun s hs => by cases hs⟩
theorem ok_new (n : Int) : Ok (new n) := ⟨by show (min (max n 0) 512).toNat ≤ 512; omega, by simp [new], fun s hs => by cases hs⟩
theorem ok_opened (b : Bytes) : Ok (opened b) := ⟨by show min _ 512 ≤ 512; omega, by simp [opened]; omega, fun s hs => by cases hs⟩
end Dk
end Go.Proofs.Ytoaadallbpelbaa
