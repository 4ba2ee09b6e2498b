/- Bytes that are appended to a row of bytes of the call's own. No condition. A register's bits, one by one, and what the document's own way of letting bits in comes to; no program stands in it. No condition. -/
import Derived.Test.YtkmljbbnpjlehaaDoorMg01
import Derived.Maps.AppendAt
import Derived.Deep.AppendLies
import Derived.Deep.RegionHeld3
import Derived.Test.YtkmljbbnpjlehaaDoorMg00
namespace Go.Proofs.YtkmljbbnpjlehaaDoor
set_option maxRecDepth 8000
open Go.RowKit

theorem Tryd.infoByte : (Tryd.prog.info? 5).map (fun i => (i.zero, i.size, i.bytes)) = some (some (.int .u8 0), 1, 1) := by kernel_rfl
theorem to_u8 (n : Nat) : IntKind.u8.wrap (n : Int) = ((UInt8.ofNat n).toNat : Int) := by
  rw [IntKind.wrap_u8', UInt8.toNat_ofNat']
  omega


/-- The slice value v owns the bytes l, in a row of block 'base' or later. -/
def Row (base : Nat) (w : World) (v : Value) (l : List UInt8) : Prop := w.ownsRow base 5 1 v l.length (l.map B)
theorem Row.form {base : Nat} {w : World} {v : Value} {l : List UInt8} (h : Row base w v l) : ∃ A cap, v = .slice A l.length cap ∧ BC w A l ∧ (∀ ad, A = some ad → base ≤ ad.block ∧ ad.block < w.heap.size ∧ v.ownBlock = some ad.block) := by
  rcases Nat.eq_zero_or_pos l.length with h0 | h0
  · rcases h.2 with ⟨rfl, _⟩ | ⟨g, cap, cur, rfl, hb, hg, _⟩
    · exact ⟨none, 0, by rw [h0], fun hn => absurd hn (by omega), fun _ h => by cases h⟩
    · refine ⟨_, cap, rfl, fun hn => absurd hn (by omega), fun ad he => ?_⟩
      cases he
      exact ⟨hb, (World.ownsRow.lt h g rfl).2, rfl⟩
  · obtain ⟨g, cap, rfl, hb, hlt⟩ := World.ownsRow.form h h0
    refine ⟨_, cap, rfl, fun _ => ⟨g, 0, rfl, fun k hk => ?_⟩, fun ad he => ?_⟩
    · have := h.cells (g := g) rfl k (B l[k]) (by simp [hk])
      rw [Addr.add_mid] at this
      exact this
    · cases he
      exact ⟨hb, hlt, rfl⟩
theorem row_none (w : World) (base : Nat) (hb : base ≤ w.heap.size) (n : Nat) (hn : n = w.heap.size) : Row base (w.alloc (.cells #[] 5)) (.slice (some ⟨n, 0, none⟩) 0 0) [] := by
  subst hn
  exact ⟨rfl, .inr ⟨w.heap.size, 0, #[], rfl, hb, heap_alloc_new w _, Nat.le_refl _, Nat.zero_le _, rfl, rfl⟩⟩

theorem run_append_bytes (w : World) (ty : TypeId) (base : Nat) (v : Value) (A : Option Addr) (c : Nat) (l m : List UInt8) (hrow : Row base w v l) (hr : BC w A m) (hl : l.length + m.length ≤ 16777216) (hbase : base ≤ w.heap.size) :
    ∃ v' w', (Builtin.append_ #[36, 36] ty #[v, .slice A m.length c]).run Tryd.prog w = .ok v' w' ∧ Row base w' v' (l ++ m) ∧ w.grownBy w' v.ownBlock := by
  obtain ⟨i0, hi0, hz0, hz1, hz2⟩ := info_parts Tryd.infoByte
  have hone : ∀ u ∈ m.map B, u.oneCell' = true := by
    intro u hu
    obtain ⟨c, _, rfl⟩ := List.mem_map.1 hu
    rfl
  have hgo : ∀ ad : Addr, A = some ad → (∀ j u, (m.map B)[j]? = some u → w.cell? (ad.add j) = some u) → ∃ v' w', (Builtin.append_ #[36, 36] ty #[v, .slice A m.length c]).run Tryd.prog w = .ok v' w' ∧ Row base w' v' (l ++ m) ∧ w.grownBy w' v.ownBlock := by
    rintro ad rfl hcells
    obtain ⟨v', w', hrun, h2, h3, _, _⟩ := run_append_own_at (P := Tryd.prog) w base 36 ty 5 i0 _ 1 1 Tryd.underlying36 hi0 hz0 hz1 hz2 rfl (by omega) v l.length (l.map B) hrow ad m.length c (m.map B) (by simp) hcells hone (by unfold maxLen; omega) (by omega) hbase
    refine ⟨v', w', hrun, ?_, h3⟩
    unfold Row
    rw [List.length_append, List.map_append]
    exact h2
  rcases Nat.eq_zero_or_pos m.length with h0 | h0
  · have hm : m = [] := List.length_eq_zero_iff.1 h0
    subst hm
    rcases A with _ | ad
    · refine ⟨v, w, ?_, by rw [List.append_nil]; exact hrow, World.grownBy.refl w _⟩
      rcases hrow.2 with ⟨rfl, hn⟩ | ⟨g, cap, cur, rfl, _, _, hnc, _⟩
      · simp [Builtin.append_, run_underlying Tryd.underlying36, sizeOf, typeInfo, hi0, Builtin.lenOf, Builtin.firstCells]
      · simp [Builtin.append_, run_underlying Tryd.underlying36, sizeOf, typeInfo, hi0, Builtin.lenOf, Builtin.firstCells, hnc, storeCells]
    · exact hgo ad rfl (fun j u hu => by simp at hu)
  · obtain ⟨b, off, rfl, hcell⟩ := hr h0
    refine hgo _ rfl (fun j u hu => ?_)
    rw [Addr.add_mid]
    have hj : j < m.length := by
      have := (List.getElem?_eq_some_iff.1 hu).1
      simpa using this
    rw [hcell j hj]
    simp [List.getElem?_map, List.getElem?_eq_getElem hj] at hu
    rw [hu]

theorem wpList_append_bytes {w : World} {ops : Array Oper} {rest : List Oper} {o : Oper} {a : Act} {Q : Exit → Act → World → Prop} (hw : Region.wanted o (yielded ops a.tmps) = true) (s x : Operand)
    (ho : o.op = .call { callee := .builtin .append, args := #[s, x], argTypes := #[36, 36] })
    (base : Nat) (v : Value) (A : Option Addr) (c n : Nat) (l m : List UInt8) (hs : a.eval s = v) (hn : m.length = n) (hx : a.eval x = .slice A n c) (hrow : Row base w v l) (hr : BC w A m) (hl : l.length + m.length ≤ 16777216) (hbase : base ≤ w.heap.size)
    (h : ∀ v' w', Row base w' v' (l ++ m) → w.grownBy w' v.ownBlock → wpList Tryd.prog ops Q rest (a.put o.dst v') w') : wpList Tryd.prog ops Q (o :: rest) a w :=
  BigFrame.wpList_want hw fun K hK => by
    subst hn
    obtain ⟨v', w', hrun, h2, h3⟩ := run_append_bytes w o.type base v A c l m hrow hr hl hbase
    unfold Oper.wp execOp
    simp only [ho, resolve, invoke, builtin, Sem.run_bind, Sem.run_pure, Result.andThen_ok, List.map_toArray, List.map_cons, List.map_nil, hs, hx, hrun]
    exact hK _ _ (h v' w' h2 h3)
theorem BC.below {w w' : World} {A : Option Addr} {l : List UInt8} {bd : Nat} (h : BC w A l) (hb : Below bd w w') (hlt : ∀ ad, A = some ad → 0 < l.length → ad.block < bd) : BC w' A l := fun hn => by
  obtain ⟨b, off, rfl, hc⟩ := h hn
  exact ⟨b, off, rfl, fun k hk => (hb.cell (p := ⟨b, off + k, none⟩) (hlt ⟨b, off, none⟩ rfl hn)).trans (hc k hk)⟩
end Go.Proofs.YtkmljbbnpjlehaaDoor
namespace Go.Proofs.YtkmljbbnpjlehaaDoor
set_option maxRecDepth 8000
namespace Cr

def bit (x i : Nat) : Nat := x / 2 ^ i % 2
theorem bit_le (x i : Nat) : bit x i ≤ 1 := by unfold bit; omega
theorem bit_zero (x : Nat) : bit x 0 = x % 2 := by unfold bit; rw [Nat.pow_zero, Nat.div_one]
theorem bit_half (x i : Nat) : bit (x / 2) i = bit x (i + 1) := by
  unfold bit
  rw [Nat.div_div_eq_div_mul, Nat.pow_succ, Nat.mul_comm]
theorem bit_xor (x y i : Nat) : bit (x ^^^ y) i = (bit x i + bit y i) % 2 := by
  unfold bit
  rw [Nat.xor_div_two_pow, xor_mod_two]
theorem bit_mx_all : ∀ i : Nat, i < 32 → bit mx i = 1 := by decide +kernel
theorem bit_mx (x i : Nat) (hi : i < 32) : bit (mx ^^^ x) i = 1 - bit x i := by
  rw [bit_xor, bit_mx_all i hi]
  have := bit_le x i
  omega
theorem bit_over {x : Nat} (h : x < 4294967296) : bit x 32 = 0 := by
  unfold bit
  rw [Nat.div_eq_of_lt h]
/-- A bit goes in. -/
theorem feed_odd {x b : Nat} (hb : b ≤ 1) (h : (x % 2 + b) % 2 = 1) (i : Nat) : bit (st (x ^^^ b)) i = (bit (x / 2) i + bit P i) % 2 := by
  unfold st
  rw [xor_mod_two, Nat.xor_div_two, show b / 2 = 0 by omega, Nat.xor_zero, show (x % 2 + b % 2) % 2 = 1 by omega, Nat.one_mul, bit_xor]
theorem feed_even {x b : Nat} (hb : b ≤ 1) (h : ¬ (x % 2 + b) % 2 = 1) (i : Nat) : bit (st (x ^^^ b)) i = bit (x / 2) i := by
  unfold st
  rw [xor_mod_two, Nat.xor_div_two, show b / 2 = 0 by omega, Nat.xor_zero, show (x % 2 + b % 2) % 2 = 0 by omega, Nat.zero_mul, Nat.xor_zero]
/-- The bits of a byte, one behind the other: what is in, and what is to come. -/
theorem feed_step {x y c k : Nat} (h : x ^^^ c / 2 ^ k = sts k y) : st (x ^^^ (c / 2 ^ k % 2)) ^^^ c / 2 ^ (k + 1) = sts (k + 1) y := by
  rw [sts_succ, ← h]
  have e : c / 2 ^ k = c / 2 ^ (k + 1) * 2 ^^^ c / 2 ^ k % 2 := by
    have := part 1 (c / 2 ^ k)
    rw [Nat.pow_one, Nat.div_div_eq_div_mul, ← Nat.pow_succ] at this
    exact this
  have e2 : x ^^^ c / 2 ^ k = (x ^^^ c / 2 ^ k % 2) ^^^ c / 2 ^ (k + 1) * 2 := by
    have : x ^^^ c / 2 ^ k = x ^^^ (c / 2 ^ (k + 1) * 2 ^^^ c / 2 ^ k % 2) := by rw [← e]
    rw [this]
    ac_rfl
  rw [e2, st_xor (x ^^^ c / 2 ^ k % 2) (c / 2 ^ (k + 1) * 2), st_double]
theorem out_step (y j : Nat) : 2 * (y / 2 ^ (j + 1)) + bit y j = y / 2 ^ j := by
  unfold bit
  rw [Nat.pow_succ, ← Nat.div_div_eq_div_mul]
  omega
theorem half_pow (c k : Nat) : c / 2 ^ k / 2 = c / 2 ^ (k + 1) := by rw [Nat.div_div_eq_div_mul, ← Nat.pow_succ]
theorem go_one (r : Nat) (l : List UInt8) (c : UInt8) : go r (l ++ [c]) = sts 8 (go r l ^^^ c.toNat) := by
  unfold go
  rw [List.foldl_append]
  rfl
end Cr
end Go.Proofs.YtkmljbbnpjlehaaDoor
