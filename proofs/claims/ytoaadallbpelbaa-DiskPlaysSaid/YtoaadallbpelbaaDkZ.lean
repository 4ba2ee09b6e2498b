/- append(s, make([]byte, m)...): zeros behind a row of bytes of the call's own; at most 1048576 bytes in all. -/
import Derived.Test.YtoaadallbpelbaaDkAw
namespace Go.Proofs.Ytoaadallbpelbaa
set_option maxRecDepth 8000
open Go.RowKit

theorem zeroCells_one (z : Value) (n : Nat) : Builtin.zeroCells #[z] n = (List.replicate n z).toArray := by
  apply Array.ext'
  apply List.ext_getElem?
  intro j
  by_cases hj : j < n
  · simp [Builtin.zeroCells, hj, Nat.mod_one]
  · simp [Builtin.zeroCells, hj]

theorem run_append_zeros (w : World) (ty : TypeId) (base g n cap m : Nat) (xs : List Value) (hown : w.ownsRow base 5 1 (.slice (some ⟨g, 0, none⟩) n cap) n xs) (hnm : n + m ≤ 1048576) (hbase : base ≤ w.heap.size) :
    ∃ v' w', (Builtin.append_ #[29, 3] ty #[.slice (some ⟨g, 0, none⟩) n cap, .int .i64 (m : Int)]).run Try.prog w = .ok v' w' ∧ w'.ownsRow base 5 1 v' (n + m) (xs ++ List.replicate m (Value.int .u8 0)) ∧ w.grownBy w' (some g) := by
  obtain ⟨i0, hi0, hz0, hz1, hz2⟩ := info_parts Try.infoByte
  have ht := Try.underlying29
  have hti := Try.underlying3
  have hw : IntKind.i64.wrap (m : Int) = (m : Int) := IntWalk.i64_in _ (by omega)
  have hlen : (xs ++ List.replicate m (Value.int .u8 0)).length = (n + m) * 1 := by rw [List.length_append, hown.1, List.length_replicate, Nat.add_mul]; omega
  rcases hown.2 with ⟨hv, _⟩ | ⟨g', cap', cur, hv, hbg, hg, hnc, hcm, hcs, htake⟩
  · cases hv
  · injection hv with e1 e2 e3
    injection e1 with e1
    injection e1 with e1 _ _
    subst e1 e3
    have hm0 : ¬ (m : Int) < 0 := by omega
    have hm48 : ¬ (281474976710656 < (m : Int)) := by omega
    have happ : ∀ w1 : World, (if m * 1 = 0 then (pure #[] : Sem (Array Value)) else pure (Builtin.zeroCells #[Value.int .u8 0] m)).run Try.prog w1 = .ok (List.replicate m (Value.int .u8 0)).toArray w1 := by
      intro w1
      by_cases h0 : m = 0
      · subst h0; simp
      · rw [if_neg (by omega), zeroCells_one]; rfl
    by_cases hroom : n + m ≤ cap
    · have hst := run_storeCells_at Try.prog g n 5 (List.replicate m (Value.int .u8 0)) 0 cur w hg (by rw [List.length_replicate]; omega) (fun v hv => by rw [List.eq_of_mem_replicate hv]; rfl)
      simp only [Nat.add_zero] at hst
      refine ⟨.slice (some ⟨g, 0, none⟩) (n + m) cap, w.setRow g (cur.toList.take n ++ List.replicate m (Value.int .u8 0) ++ cur.toList.drop (n + (List.replicate m (Value.int .u8 0)).length)).toArray, ?_, ⟨hlen, .inr ⟨g, cap, _, rfl, hbg, setRow_heap w g cur _ _ _ hg, hroom, hcm, ?_, ?_⟩⟩, ⟨rfl, rfl, rfl, by simp, fun k _ hk => setRow_other w g k _ (fun e => hk (by rw [e]))⟩⟩
      · by_cases h0 : m = 0
        · subst h0
          have hw0 : IntKind.i64.wrap 0 = 0 := rfl
          simp [Builtin.append_, run_underlying ht, run_underlying hti, asInt, asIntOf, sizeOf, typeInfo, hi0, hz1, hz2, hw0, hnc, storeCells]
          rw [setRow_self w g cur _ _ hg]
        · simp [Builtin.append_, run_underlying ht, run_underlying hti, asInt, asIntOf, sizeOf, typeInfo, zeroValue, hi0, hz0, hz1, hz2, hw, hm0, hm48, hroom, h0, Value.cells, zeroCells_one, Addr.add_lit]
          rw [hst]
          simp
      · simp; omega
      · rw [List.append_assoc, ← List.append_assoc]
        have e : cur.toList.take n = xs := by rw [← htake, Nat.mul_one]
        rw [e, List.take_left' (by rw [hlen])]
    · have hfit := growslice_fits (need := n + m) (old := cap) (bytes := 1) (by omega) (by omega)
      have h48' : ¬ (281474976710656 < Builtin.nextslicecap (n + m) cap) := by omega
      have h63' : ¬ (9223372036854775807 < ((n : Int) + (m : Int))) := by omega
      have holds : ∀ j u, xs[j]? = some u → w.cell? ((⟨g, 0, none⟩ : Addr).add j) = some u := hown.cells (g := g) rfl
      have hfo := run_firstCells_some (P := Try.prog) w.drew 1 n ⟨g, 0, none⟩ n cap xs (by rw [hown.1]) (by simpa using holds)
      have hm1 : ¬ m = 0 := by omega
      have hge := grownCap_ge w (n + m) cap 5
      have hcm2 : grownCap w (n + m) cap 5 ≤ maxLen := grownCap_le_maxLen w (n + m) cap 5 (by unfold maxLen; omega)
      refine ⟨.slice (some ⟨w.heap.size, 0, none⟩) (n + m) (grownCap w (n + m) cap 5), w.drew.alloc (.cells (xs.toArray ++ (List.replicate m (Value.int .u8 0)).toArray ++ Builtin.zeroCells #[Value.int .u8 0] (grownCap w (n + m) cap 5 - (n + m))) 5), ?_, ⟨hlen, .inr ⟨w.heap.size, _, _, rfl, hbase, heap_alloc_new w.drew _, hge, hcm2, ?_, ?_⟩⟩, ⟨rfl, rfl, rfl, by simp, fun k hk _ => Below.heap_alloc w.drew _ k hk⟩⟩
      · simp [Builtin.append_, run_underlying ht, run_underlying hti, asInt, asIntOf, sizeOf, typeInfo, zeroValue, hi0, hz0, hz1, hz2, hw, hm0, hm48, hroom, hm1, h48', h63', Question.forced, hfo, newRow, grownCap, Value.cells, zeroCells_one]
      · have h1 := hown.1
        simp [Builtin.zeroCells]
        omega
      · simp only [Array.toList_append, List.append_assoc]
        rw [← List.append_assoc, ← hlen]
        exact List.take_left
end Go.Proofs.Ytoaadallbpelbaa
