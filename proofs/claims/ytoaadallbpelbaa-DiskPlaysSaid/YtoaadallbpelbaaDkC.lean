/- What the calls New and Faults of package disk do. No condition. -/
import Derived.Test.YtoaadallbpelbaaDkB
namespace Go.Proofs.Ytoaadallbpelbaa
set_option maxRecDepth 8000
open Go.RowKit

theorem Try.infoBlock : (Try.prog.info? 66).map (fun i => (i.zero, i.size, i.bytes)) = some (some (.agg (List.replicate 32 (B 0)).toArray), 32, 32) := by kernel_rfl
theorem Try.infoStaged : (Try.prog.info? 68).map (fun i => (i.zero, i.size, i.bytes)) = some (some (.agg (.int .i64 0 :: List.replicate 32 (B 0)).toArray), 33, 40) := by kernel_rfl
theorem Try.infoByte : (Try.prog.info? 5).map (fun i => (i.zero, i.size, i.bytes)) = some (some (.int .u8 0), 1, 1) := by kernel_rfl
theorem Try.infoBool : (Try.prog.info? 4).map (fun i => (i.zero, i.size, i.bytes)) = some (some (.bool false), 1, 1) := by kernel_rfl
theorem rep_get (v : Value) (j : Nat) (hj : j < 32) : (List.replicate 32 v).toArray[j]! = v := by
  rw [getElem!_pos _ _ (by simpa using hj)]
  simp only [List.getElem_toArray, List.getElem_replicate]
theorem made_blocks (n : Nat) : madeCells (Value.agg (List.replicate 32 (B 0)).toArray).cells (n * 32) = (bcs (List.replicate (32 * n) 0)).toArray := by
  apply Array.ext
  · rw [size_madeCells]; simp [bcs_len]; omega
  · intro i h1 h2
    have h3 : i % 32 < 32 := Nat.mod_lt _ (by decide)
    have e1 : (madeCells (Value.agg (List.replicate 32 (B 0)).toArray).cells (n * 32))[i] = (List.replicate 32 (B 0)).toArray[i % 32]! := by
      show ((Array.range (n * 32)).map fun x => (List.replicate 32 (B 0)).toArray[x % (List.replicate 32 (B 0)).toArray.size]!)[i]'(by simpa [madeCells] using h1) = _
      rw [Array.getElem_map, Array.getElem_range]
      rfl
    rw [e1, rep_get _ _ h3]
    simp only [bcs, List.getElem_toArray, List.map_replicate, List.getElem_replicate]

def MadePost (w : World) (d : Dk.D) (e : Ending) (w' : World) : Prop :=
  ∃ a, e = .returned (.pointer (some ⟨a.P, 0, none⟩)) ∧ DAt w' a d ∧ There w' a ∧ Below w.heap.size w w' ∧ ∀ x ∈ a.F, w.heap.size ≤ x

theorem made_at (w : World) (m : Nat) (l : List UInt8) (hm : m ≤ 512) (hl : l.length = 32 * m) :
    MadePost w ⟨m, l, [], [], -1⟩ (.returned (.pointer (some ⟨w.heap.size + 1, 0, none⟩))) ((w.alloc (.cells (bcs l).toArray 66)).alloc (.cells #[.slice (some ⟨w.heap.size, 0, none⟩) m m, .slice none 0 0, .slice none 0 0, .int .i64 (-1)] 60)) := by
  have hsz : (w.alloc (.cells (bcs l).toArray 66)).heap.size = w.heap.size + 1 := by simp
  refine ⟨⟨w.heap.size + 1, w.heap.size, none, 0, none, 0⟩, rfl, ⟨⟨hm, hl, fun s hs => by cases hs⟩, ?_, ?_, World.ownsRow_nil _ _ _ _, fun h => absurd h (by simp), by simp, by simp⟩, ⟨?_⟩, ((Below.refl _ _).alloc (Nat.le_refl _) _).alloc (by simp) _, ?_⟩
  · rw [← hsz]; exact heap_alloc_new _ _
  · rw [Below.heap_alloc _ _ _ (by simp)]; exact heap_alloc_new w _
  · intro x hx
    simp [Mm.F, blkOf] at hx
    simp
    omega
  · intro x hx
    simp [Mm.F, blkOf] at hx
    omega

set_option maxHeartbeats 800000 in
theorem new_any (w : World) (n : Int) : Calls Try.prog 11 #[.int .i64 n] w (MadePost w (Dk.new n)) := by
  obtain ⟨i0, hi0, hz0, hz1, hz2⟩ := info_parts Try.infoBlock
  have hgo : ∀ m : Nat, (min (max n 0) 512).toNat = m → m ≤ 512 → MadePost w (Dk.new n) (.returned (.pointer (some ⟨w.heap.size + 1, 0, none⟩))) ((w.alloc (.cells (bcs (List.replicate (32 * m) 0)).toArray 66)).alloc (.cells #[.slice (some ⟨w.heap.size, 0, none⟩) m m, .slice none 0 0, .slice none 0 0, .int .i64 (-1)] 60)) := by
    rintro m rfl hm
    exact made_at w _ _ hm (by simp)
  have hmk : ∀ (m : Nat), m ≤ 512 → (Instr.makeSlice 57 (.int .i64 (m : Int)) (.int .i64 (m : Int))).run Try.prog w = .ok (.slice (some ⟨w.heap.size, 0, none⟩) m m) (w.alloc (.cells (bcs (List.replicate (32 * m) 0)).toArray 66)) := by
    intro m hm
    have := run_make (P := Try.prog) w 57 66 i0 _ Try.underlying57 hi0 hz0 .i64 .i64 m m (by omega) (Int.le_refl _) (by rw [hz2]; omega) (by omega)
    rw [hz1, Int.toNat_natCast, made_blocks] at this
    exact this
  by_cases h0 : n < 0
  · have HG := Lib.hid (hgo 0 (by omega) (by omega))
    have HM : (Instr.makeSlice 57 (.int .i64 0) (.int .i64 0)).run Try.prog w = _ := hmk 0 (by omega)
    have h0' : ¬ 0 ≤ n := by omega
    clear hgo hmk
    go_enter Try.func11, Try.ntmps11
    go_wp2_with fail
    go_ret
    exact HG.out
  · by_cases h1 : n ≤ 512
    · obtain ⟨m, rfl⟩ := Int.eq_ofNat_of_zero_le (show 0 ≤ n by omega)
      have HG := Lib.hid (hgo m (by omega) (by omega))
      have HM := hmk m (by omega)
      have h0' : 0 ≤ (m : Int) := by omega
      have h1' : ¬ 512 < (m : Int) := by omega
      clear hgo hmk
      go_enter Try.func11, Try.ntmps11
      go_wp2_with fail
      go_ret
      exact HG.out
    · have HG := Lib.hid (hgo 512 (by omega) (by omega))
      have HM : (Instr.makeSlice 57 (.int .i64 512) (.int .i64 512)).run Try.prog w = .ok (.slice (some ⟨w.heap.size, 0, none⟩) 512 512) (w.alloc (.cells (bcs (List.replicate (32 * 512) 0)).toArray 66)) := hmk 512 (by omega)
      obtain ⟨Z, hZ⟩ : ∃ Z, Z = List.replicate (32 * 512) (0 : UInt8) := ⟨_, rfl⟩
      rw [← hZ] at HG HM
      have h0' : 0 ≤ n := by omega
      have h1' : 512 < n := by omega
      clear hgo hmk hZ
      go_enter Try.func11, Try.ntmps11
      go_wp2_with fail
      go_ret
      exact HG.out
end Go.Proofs.Ytoaadallbpelbaa
