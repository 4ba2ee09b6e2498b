/- What the call Open of package disk does, for any bytes. No condition. How a disk of the document's own answer lies in memory, and what its calls New, Open and Len do. No condition. -/
import Derived.Test.YtfceljbmdcbciaaDoorMg23
namespace Go.Proofs.YtfceljbmdcbciaaDoor
set_option maxRecDepth 8000
open Go.RowKit

namespace Dk
/-- The first k blocks of b, and zeros. -/
def part (b : Bytes) (n k : Nat) : Bytes := b.take (32 * k) ++ List.replicate (32 * (n - k)) 0
theorem part_len (b : Bytes) (n k : Nat) (hk : k ≤ n) (hn : 32 * n ≤ b.length) : (part b n k).length = 32 * n := by
  unfold part
  rw [List.length_append, List.length_take, List.length_replicate, Nat.min_eq_left (by omega)]
  omega
theorem part_zero (b : Bytes) (n : Nat) : part b n 0 = List.replicate (32 * n) 0 := by simp [part]
theorem part_all (b : Bytes) (n : Nat) : part b n n = b.take (32 * n) := by simp [part]
theorem blk_len2 (b : Bytes) (n k : Nat) (hk : k < n) (hn : 32 * n ≤ b.length) : (blk b k).length = 32 := by unfold blk; rw [List.length_take, List.length_drop]; omega
theorem part_succ (b : Bytes) (n k : Nat) (hk : k < n) (hn : 32 * n ≤ b.length) : lay (part b n k) (k, blk b k) 32 = part b n (k + 1) := by
  have hb := blk_len2 b n k hk hn
  have hl := part_len b n k (by omega) hn
  apply List.ext_getElem?
  intro q
  rw [lay_get (N := n) hl hk hb (Nat.le_refl _)]
  have hp : ∀ m, m ≤ n → (part b n m)[q]? = if q < 32 * m then b[q]? else if q < 32 * n then some 0 else none := fun m hm => by
    unfold part
    by_cases h : q < 32 * m
    · rw [if_pos h, List.getElem?_append_left (by rw [List.length_take]; omega), List.getElem?_take, if_pos h]
    · rw [if_neg h, List.getElem?_append_right (by rw [List.length_take]; omega), List.length_take, Nat.min_eq_left (by omega), List.getElem?_replicate]
      by_cases h2 : q < 32 * n
      · rw [if_pos (by omega), if_pos h2]
      · rw [if_neg (by omega), if_neg h2]
  rw [hp k (by omega), hp (k + 1) (by omega)]
  by_cases h1 : 32 * k ≤ q ∧ q < 32 * k + 32
  · rw [if_pos (show 32 * (k, blk b k).1 ≤ q ∧ q < 32 * (k, blk b k).1 + 32 from h1), if_pos (by omega)]
    show (blk b k)[q - 32 * k]? = _
    rw [blk_get, if_pos (by omega)]
    congr 1
    omega
  · rw [if_neg (show ¬ (32 * (k, blk b k).1 ≤ q ∧ q < 32 * (k, blk b k).1 + 32) from h1)]
    by_cases h2 : q < 32 * k
    · rw [if_pos h2, if_pos (by omega)]
    · have h3 : ¬ q < 32 * (k + 1) := by omega
      rw [if_neg h2, if_neg h3]
end Dk

end Go.Proofs.YtfceljbmdcbciaaDoor
namespace Go.Proofs.YtfceljbmdcbciaaDoor
set_option maxRecDepth 8000
open Go.RowKit

/-- Where such a disk lies: its struct, what it keeps, what it stages, its plan, the calls left; the blocks of what it stages. -/
structure Rm where
  P : Nat
  K : Option Addr
  cK : Nat
  S : Option Addr
  cS : Nat
  G : Option Addr
  cG : Nat
  lf : Int
  gs : List Nat
def Rm.F (b : Rm) : List Nat := b.P :: (blkOf b.K ++ (blkOf b.S ++ (blkOf b.G ++ b.gs)))
theorem mem_R (b : Rm) (x : Nat) : x ∈ b.F ↔ x = b.P ∨ x ∈ blkOf b.K ∨ x ∈ blkOf b.S ∨ x ∈ blkOf b.G ∨ x ∈ b.gs := by simp [Rm.F]
def rc1 (at0 : Nat) (g : Nat) : List Value := [.int .i64 (at0 : Int), .slice (some ⟨g, 0, none⟩) 32 32]
def rcs : List (Nat × List UInt8) → List Nat → List Value
  | s :: l, g :: gs => rc1 s.1 g ++ rcs l gs
  | _, _ => []
/-- How many calls are left, as the document's disk counts them. -/
def LfOk (d : Dk.D) (lf : Int) : Prop := 0 ≤ lf ∧ lf ≤ 9223372036854775807 ∧ (d.left ≠ 0 → lf = max 0 d.left)
structure RAt (w : World) (b : Rm) (d : Dk.D) : Prop where
  ok : Dk.Ok d
  disk : w.heap[b.P]? = some (.cells #[.slice b.K d.kept.length b.cK, .slice b.S d.st.length b.cS, .slice b.G d.plan.length b.cG, .bool (decide (d.left = 0)), .int .i64 b.lf] 46 (0, 0))
  kept : w.ownsRow 0 5 1 (.slice b.K d.kept.length b.cK) d.kept.length (bcs d.kept)
  st : w.ownsRow 0 100 2 (.slice b.S d.st.length b.cS) d.st.length (rcs d.st b.gs)
  gl : b.gs.length = d.st.length
  gb : ∀ k (h : k < d.st.length), w.heap[b.gs[k]'(by rw [gl]; exact h)]? = some (.cells (cB d.st[k].2) 5 (0, 0))
  plan : BoC w b.G d.plan
  cap : d.plan.length ≤ b.cG ∧ b.cG ≤ 9223372036854775807
  left : LfOk d b.lf
structure RThere (w : World) (b : Rm) : Prop where
  all : ∀ x ∈ b.F, x < w.heap.size
theorem RAt.same {w w' : World} {b : Rm} {d : Dk.D} (h : RAt w b d) (hs : ∀ x ∈ b.F, w'.heap[x]? = w.heap[x]?) : RAt w' b d where
  ok := h.ok
  disk := (hs b.P ((mem_R b _).2 (.inl rfl))).trans h.disk
  kept := own_block h.kept (fun x hx => hs x ((mem_R b _).2 (.inr (.inl hx))))
  st := own_block h.st (fun x hx => hs x ((mem_R b _).2 (.inr (.inr (.inl hx)))))
  gl := h.gl
  gb := fun k hk => (hs _ ((mem_R b _).2 (.inr (.inr (.inr (.inr (List.getElem_mem _))))))).trans (h.gb k hk)
  plan := h.plan.block (fun x hx => hs x ((mem_R b _).2 (.inr (.inr (.inr (.inl hx))))))
  cap := h.cap
  left := h.left
theorem RThere.more {w w' : World} {b : Rm} (h : RThere w b) (hs : w.heap.size ≤ w'.heap.size) : RThere w' b := ⟨fun x hx => Nat.lt_of_lt_of_le (h.all x hx) hs⟩
theorem RAt.c {w : World} {b : Rm} {d : Dk.D} (h : RAt w b d) : w.cell? ⟨b.P, 0, none⟩ = some (.slice b.K d.kept.length b.cK) ∧ w.cell? ⟨b.P, 1, none⟩ = some (.slice b.S d.st.length b.cS) ∧ w.cell? ⟨b.P, 2, none⟩ = some (.slice b.G d.plan.length b.cG) ∧ w.cell? ⟨b.P, 3, none⟩ = some (.bool (decide (d.left = 0))) ∧ w.cell? ⟨b.P, 4, none⟩ = some (.int .i64 b.lf) :=
  ⟨cell_of_row w _ 0 _ _ _ h.disk, cell_of_row w _ 1 _ _ _ h.disk, cell_of_row w _ 2 _ _ _ h.disk, cell_of_row w _ 3 _ _ _ h.disk, cell_of_row w _ 4 _ _ _ h.disk⟩
theorem RAt.fr {w : World} {b : Rm} {d : Dk.D} (h : RAt w b d) (j : Nat) : w.frozen? ⟨b.P, j, none⟩ = false := frozen_of_row w b.P j _ _ h.disk
def MadeR (w : World) (d : Dk.D) (e : Ending) (w' : World) : Prop :=
  ∃ b : Rm, e = .returned (.pointer (some ⟨b.P, 0, none⟩)) ∧ RAt w' b d ∧ RThere w' b ∧ Below w.heap.size w w' ∧ ∀ x ∈ b.F, w.heap.size ≤ x

theorem own_base {w : World} {base : Nat} {e : TypeId} {size n : Nat} {v : Value} {xs : List Value} (h : w.ownsRow base e size v n xs) : w.ownsRow 0 e size v n xs := by
  refine ⟨h.1, ?_⟩
  rcases h.2 with h | ⟨g, cap, cur, hv, _, r⟩
  · exact .inl h
  · exact .inr ⟨g, cap, cur, hv, Nat.zero_le _, r⟩
theorem made_r {w w1 : World} {m : Nat} {l : List UInt8} {K : Option Addr} {cK : Nat} (hm : m ≤ 512) (hl : l.length = 32 * m) (hown : w1.ownsRow w.heap.size 5 1 (.slice K l.length cK) l.length (bcs l)) (hb : Below w.heap.size w w1) (g : Nat) (hg : g = w1.heap.size) :
    MadeR w ⟨m, l, [], [], -1⟩ (.returned (.pointer (some ⟨g, 0, none⟩))) (w1.alloc (.cells #[.slice K l.length cK, .slice none 0 0, .slice none 0 0, .bool false, .int .i64 0] 46)) := by
  subst hg
  obtain ⟨K', cap', e, _, _, _, hblk⟩ := own_form hown
  injection e with e1 _ _
  have hK : ∀ x ∈ blkOf K, w.heap.size ≤ x ∧ x < w1.heap.size := by rw [e1]; exact fun x hx => ⟨(hblk x hx).1, (hblk x hx).2.1⟩
  have hkeep : (w1.alloc (.cells #[.slice K l.length cK, .slice none 0 0, .slice none 0 0, .bool false, .int .i64 0] 46)).ownsRow w.heap.size 5 1 (.slice K l.length cK) l.length (bcs l) := hown.alloc _
  refine ⟨⟨w1.heap.size, K, cK, none, 0, none, 0, 0, []⟩, rfl, ⟨⟨hm, hl, fun s hs => by cases hs⟩, heap_alloc_new w1 _, ?_, World.ownsRow_nil _ _ _ _, rfl, fun k hk => absurd hk (by simp), fun h => absurd h (by simp), by simp, ⟨by dsimp only; omega, by dsimp only; omega, fun _ => rfl⟩⟩, ⟨fun x hx => ?_⟩, hb.alloc hb.size _, fun x hx => ?_⟩
  · exact own_base hkeep
  · simp [Rm.F, blkOf] at hx
    rcases hx with rfl | hx
    · simp
    · have := (hK x (by simpa [blkOf] using hx)).2
      simp
      omega
  · simp [Rm.F, blkOf] at hx
    rcases hx with rfl | hx
    · exact hb.size
    · exact (hK x (by simpa [blkOf] using hx)).1

theorem made_bytes (n : Nat) : madeCells (Value.int .u8 0).cells (n * 1) = (bcs (List.replicate n 0)).toArray := by
  apply Array.ext
  · rw [size_madeCells]; simp [bcs_len]
  · intro i h1 h2
    have e1 : (madeCells (Value.int .u8 0).cells (n * 1))[i] = (#[Value.int .u8 0] : Array Value)[i % 1]! := by
      show ((Array.range (n * 1)).map fun x => (#[Value.int .u8 0] : Array Value)[x % (#[Value.int .u8 0] : Array Value).size]!)[i]'(by simpa [madeCells] using h1) = _
      rw [Array.getElem_map, Array.getElem_range]
      rfl
    rw [e1, Nat.mod_one]
    simp only [bcs, List.getElem_toArray, List.map_replicate, List.getElem_replicate]
    rfl
theorem own_whole (w : World) (base : Nat) (l : List UInt8) (hb : base ≤ w.heap.size) (hl : l.length ≤ 1048576) (g n : Nat) (hg : g = w.heap.size) (hn : n = l.length) : (w.alloc (.cells (bcs l).toArray 5)).ownsRow base 5 1 (.slice (some ⟨g, 0, none⟩) n n) n (bcs l) := by
  subst hg hn
  exact ⟨by rw [bcs_len]; omega, .inr ⟨w.heap.size, l.length, (bcs l).toArray, rfl, hb, heap_alloc_new w _, Nat.le_refl _, by unfold maxLen; omega, by simp [bcs_len], by simp [← bcs_len]⟩⟩
theorem make_bytes (w : World) (m : Nat) (hm : m ≤ 1048576) : (Instr.makeSlice 36 (.int .i64 (m : Int)) (.int .i64 (m : Int))).run Tryd.prog w = .ok (.slice (some ⟨w.heap.size, 0, none⟩) m m) (w.alloc (.cells (bcs (List.replicate m 0)).toArray 5)) := by
  obtain ⟨i0, hi0, hz0, hz1, hz2⟩ := info_parts Tryd.infoByte
  have := run_make (P := Tryd.prog) w 36 5 i0 _ Tryd.underlying36 hi0 hz0 .i64 .i64 m m (by omega) (Int.le_refl _) (by rw [hz2]; omega) (by omega)
  rw [hz1, Int.toNat_natCast, made_bytes] at this
  exact this

set_option maxHeartbeats 800000 in
theorem ref_new_any (w : World) (n : Int) : Calls Tryd.prog 11 #[.int .i64 n] w (MadeR w (Dk.new n)) := by
  have hgo : ∀ m q : Nat, (min (max n 0) 512).toNat = m → q = 32 * m → MadeR w (Dk.new n) (.returned (.pointer (some ⟨w.heap.size + 1, 0, none⟩))) ((w.alloc (.cells (bcs (List.replicate q 0)).toArray 5)).alloc (.cells #[.slice (some ⟨w.heap.size, 0, none⟩) q q, .slice none 0 0, .slice none 0 0, .bool false, .int .i64 0] 46)) := by
    rintro m q hm rfl
    have hm512 : m ≤ 512 := by omega
    have hdn : Dk.new n = ⟨m, List.replicate (32 * m) 0, [], [], -1⟩ := by unfold Dk.new; rw [hm]
    rw [hdn]
    have := made_r (w := w) (w1 := w.alloc (.cells (bcs (List.replicate (32 * m) 0)).toArray 5)) (m := m) (l := List.replicate (32 * m) 0) (K := some ⟨w.heap.size, 0, none⟩) (cK := 32 * m) hm512 (by simp) (by
      rw [List.length_replicate]
      exact own_whole w w.heap.size _ (Nat.le_refl _) (by simp; omega) _ _ rfl (by simp)) ((Below.refl _ _).alloc (Nat.le_refl _) _) (w.heap.size + 1) (by simp)
    rw [List.length_replicate] at this
    exact this
  obtain ⟨m, hm⟩ : ∃ m, m = (min (max n 0) 512).toNat := ⟨_, rfl⟩
  obtain ⟨q, hq⟩ : ∃ q, q = 32 * m := ⟨_, rfl⟩
  have HG := Lib.hid (hgo m q hm.symm hq)
  have HM := make_bytes w q (by omega)
  have h1 : max 0 (min n 512) = (m : Int) := by omega
  have h2 : (32 : Int) * (m : Int) = (q : Int) := by omega
  have h3 : q ≤ 16384 := by omega
  clear hgo hq hm
  go_enter Tryd.func11, Tryd.ntmps11
  go_wp2_with fail
  go_ret
  exact HG.out

theorem ref_len_any (w : World) (b : Rm) (d : Dk.D) (h : RAt w b d) :
    Calls Tryd.prog 46 #[.pointer (some ⟨b.P, 0, none⟩)] w fun e w' => e = .returned (.int .i64 d.n) ∧ w = w' := by
  have c0 := h.c.1
  have hn := h.ok.n
  obtain ⟨L, hL⟩ : ∃ L, L = d.kept.length := ⟨_, rfl⟩
  have e1 : (L : Int) / 32 = (d.n : Int) := by rw [hL, h.ok.kept]; omega
  have e0 : IntKind.i64.wrap (d.n : Int) = (d.n : Int) := IntWalk.i64_in _ (by omega)
  have e2 : (L : Int).tdiv 32 = (d.n : Int) := by rw [Int.tdiv_eq_ediv_of_nonneg (by omega)]; exact e1
  rw [← hL] at c0
  clear hL
  go_enter Tryd.func46, Tryd.ntmps46
  go_wp2
  go_ret
  exact ⟨rfl, rfl⟩

end Go.Proofs.YtfceljbmdcbciaaDoor
