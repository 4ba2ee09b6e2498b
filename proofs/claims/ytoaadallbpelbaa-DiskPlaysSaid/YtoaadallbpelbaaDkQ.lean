/- What follows of the plain functions on disks, for the statements: what blocks are behind writes, a sync, a crash. No condition. -/
import Derived.Test.YtoaadallbpelbaaDkP
namespace Go.Proofs.Ytoaadallbpelbaa
set_option maxRecDepth 8000
namespace Dk

theorem splice_get (L : Bytes) (off : Nat) (cs : Bytes) (h : off + cs.length ≤ L.length) (q : Nat) : (splice L off cs)[q]? = if off ≤ q ∧ q < off + cs.length then cs[q - off]? else L[q]? := by
  unfold splice
  by_cases h1 : q < off
  · rw [List.getElem?_append_left (by rw [List.length_take]; omega), List.getElem?_take, if_pos h1, if_neg (by omega)]
  · rw [List.getElem?_append_right (by rw [List.length_take]; omega), List.length_take, Nat.min_eq_left (by omega)]
    by_cases h2 : q < off + cs.length
    · rw [List.getElem?_append_left (by omega), if_pos ⟨by omega, h2⟩]
    · rw [List.getElem?_append_right (by omega), List.getElem?_drop, if_neg (by omega)]
      congr 1
      omega
theorem lay_get {k : Bytes} {N : Nat} {s : Nat × Bytes} {n : Nat} (hk : k.length = 32 * N) (h1 : s.1 < N) (h2 : s.2.length = 32) (hn : n ≤ 32) (q : Nat) : (lay k s n)[q]? = if 32 * s.1 ≤ q ∧ q < 32 * s.1 + n then s.2[q - 32 * s.1]? else k[q]? := by
  unfold lay
  rw [splice_get _ _ _ (by rw [List.length_take]; omega), List.length_take, h2, Nat.min_eq_left hn]
  by_cases h : 32 * s.1 ≤ q ∧ q < 32 * s.1 + n
  · rw [if_pos h, if_pos h, List.getElem?_take, if_pos (by omega)]
  · rw [if_neg h, if_neg h]
theorem blk_get (k : Bytes) (j q : Nat) : (blk k j)[q]? = if q < 32 then k[32 * j + q]? else none := by
  unfold blk
  rw [List.getElem?_take]
  split
  · rw [List.getElem?_drop]
  · rfl
theorem blk_same {k : Bytes} {N i : Nat} {x : Bytes} (hk : k.length = 32 * N) (hi : i < N) (hx : x.length = 32) : blk (lay k (i, x) 32) i = x := by
  apply List.ext_getElem?
  intro q
  rw [blk_get]
  split
  · rw [lay_get hk hi hx (Nat.le_refl _), if_pos ⟨by show 32 * i ≤ _; omega, by show _ < 32 * i + 32; omega⟩]
    show x[32 * i + q - 32 * i]? = x[q]?
    congr 1
    omega
  · rw [List.getElem?_eq_none (by omega)]
theorem blk_other {k : Bytes} {N i j : Nat} {x : Bytes} {n : Nat} (hk : k.length = 32 * N) (hi : i < N) (hx : x.length = 32) (hn : n ≤ 32) (h : i ≠ j) : blk (lay k (i, x) n) j = blk k j := by
  apply List.ext_getElem?
  intro q
  rw [blk_get, blk_get]
  split
  · rw [lay_get hk hi hx hn, if_neg (by show ¬ (32 * i ≤ _ ∧ _ < 32 * i + n); omega)]
  · rfl

/-- A disk on which nothing fails. -/
theorem fresh_asked {d : D} (h1 : d.left < 0) (h2 : d.plan = []) : d.asked = d ∧ d.bad = false := by
  constructor
  · rw [asked_on d (by omega), h2]
    unfold tick
    rw [if_neg (by omega)]
    cases d
    simp_all
  · rw [bad_on d (by omega), h2]
    rfl
theorem fresh_write {d : D} (h1 : d.left < 0) (h2 : d.plan = []) (i : Int) (b : Bytes) (hb : b.length ≤ 32) :
    (i < 0 ∨ (d.n : Int) ≤ i → d.writeE i b = 4 ∧ d.write i b = d) ∧ (0 ≤ i → i < (d.n : Int) → d.writeE i b = 0 ∧ d.write i b = { d with st := d.st ++ [(i.toNat, pad b)] }) := by
  obtain ⟨e1, e2⟩ := fresh_asked h1 h2
  constructor
  · intro hi
    unfold D.writeE D.write
    rw [if_pos hi, if_pos hi]
    exact ⟨rfl, rfl⟩
  · intro hi hi2
    unfold D.writeE D.write
    have g1 : ¬ (i < 0 ∨ (d.n : Int) ≤ i) := by omega
    have g2 : ¬ 32 < b.length := by omega
    rw [if_neg g1, if_neg g1, if_neg g2, if_neg g2, e2, e1]
    exact ⟨rfl, rfl⟩
theorem fresh_sync {d : D} (h1 : d.left < 0) (h2 : d.plan = []) : d.syncE = 0 ∧ d.sync = { d with kept := layAll d.kept d.st, st := [] } := by
  obtain ⟨e1, e2⟩ := fresh_asked h1 h2
  unfold D.syncE D.sync
  rw [e2, e1]
  exact ⟨rfl, rfl⟩

/-- WHAT IS WRITTEN LAST LIES THERE. -/
structure Ord (n i k : Nat) (a b c : Bytes) (d : D) : Prop where
  st : d.st = []
  n : d.n = n
  x : blk d.kept i = pad b
  y : i ≠ k → blk d.kept k = pad c
theorem order_ok (bl : Int) (i k : Nat) (a b c : Bytes) (ha : a.length ≤ 32) (hb : b.length ≤ 32) (hc : c.length ≤ 32) (hi : i < (new bl).n) (hk : k < (new bl).n) :
    (new bl).writeE i a = 0 ∧ ((new bl).write i a).writeE k c = 0 ∧ (((new bl).write i a).write k c).writeE i b = 0 ∧ (((new bl).write i a).write k c |>.write i b).syncE = 0 ∧ Ord (new bl).n i k a b c ((((new bl).write i a).write k c).write i b).sync := by
  obtain ⟨d0, hd⟩ : ∃ d0, d0 = new bl := ⟨_, rfl⟩
  have hok : Ok d0 := by rw [hd]; exact ok_new bl
  have hl : d0.left < 0 := by rw [hd]; show (-1 : Int) < 0; omega
  have hp : d0.plan = [] := by rw [hd]; rfl
  have hs : d0.st = [] := by rw [hd]; rfl
  rw [← hd] at hi hk ⊢
  obtain ⟨e1, q1⟩ := (fresh_write hl hp (i : Int) a ha).2 (by omega) (by omega)
  rw [q1, hs]
  obtain ⟨e2, q2⟩ := (fresh_write (d := { d0 with st := [] ++ [((i : Int).toNat, pad a)] }) hl hp (k : Int) c hc).2 (by omega) (by show (k : Int) < (d0.n : Int); omega)
  rw [q2]
  obtain ⟨e3, q3⟩ := (fresh_write (d := { d0 with st := [] ++ [((i : Int).toNat, pad a)] ++ [((k : Int).toNat, pad c)] }) hl hp (i : Int) b hb).2 (by omega) (by show (i : Int) < (d0.n : Int); omega)
  rw [q3]
  obtain ⟨e4, q4⟩ := fresh_sync (d := { d0 with st := [] ++ [((i : Int).toNat, pad a)] ++ [((k : Int).toNat, pad c)] ++ [((i : Int).toNat, pad b)] }) hl hp
  rw [q4]
  refine ⟨e1, e2, e3, e4, rfl, rfl, ?_, ?_⟩
  · show blk (lay (lay (lay d0.kept ((i : Int).toNat, pad a) 32) ((k : Int).toNat, pad c) 32) ((i : Int).toNat, pad b) 32) i = pad b
    rw [Int.toNat_natCast, Int.toNat_natCast]
    exact blk_same (lay_ok 32 (lay_ok 32 hok.kept hi (pad_len a ha)) hk (pad_len c hc)) hi (pad_len b hb)
  · intro hne
    show blk (lay (lay (lay d0.kept ((i : Int).toNat, pad a) 32) ((k : Int).toNat, pad c) 32) ((i : Int).toNat, pad b) 32) k = pad c
    rw [Int.toNat_natCast, Int.toNat_natCast]
    rw [blk_other (lay_ok 32 (lay_ok 32 hok.kept hi (pad_len a ha)) hk (pad_len c hc)) hi (pad_len b hb) (Nat.le_refl _) hne]
    exact blk_same (lay_ok 32 hok.kept hi (pad_len a ha)) hk (pad_len c hc)
theorem order_n (bl : Int) (i k : Int) (a c : Bytes) : ((new bl).write i a).n = (new bl).n ∧ (((new bl).write i a).write k c).n = (new bl).n := by
  have h : ∀ (d : D) (i : Int) (b : Bytes), (d.write i b).n = d.n := fun d i b => by
    unfold D.write
    split
    · rfl
    · split
      · rfl
      · split
        · exact asked_n d
        · exact asked_n d
  exact ⟨h _ _ _, (h _ _ _).trans (h _ _ _)⟩
end Dk
end Go.Proofs.Ytoaadallbpelbaa
