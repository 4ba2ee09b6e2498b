/- A change that can be as bytes: the program's written, and the document's One. No condition. A change as bytes: the document's One. No condition but that texts are not too long. -/
import Derived.Test.YtfceljbmdcbciaaDoorMg05
import Derived.Test.YtfceljbmdcbciaaDoorMg01
import Derived.Lib.AppendStr
import Derived.Lib.ConvBytes
namespace Go.Proofs.YtfceljbmdcbciaaDoor
set_option maxRecDepth 8000
open Go.RowKit

/-- Bytes of the call's own. -/
def OwnB (w : World) (l : List UInt8) (e : Ending) (w' : World) : Prop := ∃ A c, e = .returned (.slice A l.length c) ∧ Row w.heap.size w' (.slice A l.length c) l ∧ Below w.heap.size w w'
theorem own_base5 {b b' : Nat} {w : World} {v : Value} {l : List UInt8} (h : Row b w v l) (hb : b' ≤ b) : Row b' w v l := by
  refine ⟨h.1, ?_⟩
  rcases h.2 with h1 | ⟨g, cap, cur, e, h2, h3⟩
  · exact .inl h1
  · exact .inr ⟨g, cap, cur, e, Nat.le_trans hb h2, h3⟩
set_option maxHeartbeats 3200000 in
theorem kvWritten_any (w : World) (c : Kv.C) (hr : Kv.right c = true) : Calls Tryd.prog 88 #[cV c] w (OwnB w (Kv.one c)) := by
  obtain ⟨h1, h2, h3, h4⟩ := Kv.right_of hr
  obtain ⟨k, v, g⟩ := c
  dsimp only at h1 h2 h3 h4
  unfold cV
  dsimp only
  obtain ⟨wb, hwb⟩ : ∃ wb, wb = w.alloc (.cells #[.string (S k), .string (S v), .bool g] 105) := ⟨_, rfl⟩
  have hbb : Below w.heap.size w wb := by rw [hwb]; exact (Below.refl _ _).alloc (Nat.le_refl _) _
  have hlt : w.heap.size < wb.heap.size := by simp [hwb]
  have hcell : ∀ w', Below wb.heap.size wb w' → w'.cell? ⟨w.heap.size, 0, none⟩ = some (.string (S k)) ∧ w'.cell? ⟨w.heap.size, 1, none⟩ = some (.string (S v)) ∧ w'.cell? ⟨w.heap.size, 2, none⟩ = some (.bool g) := fun w' hb' => by
    have e0 : wb.heap[w.heap.size]? = some (.cells #[.string (S k), .string (S v), .bool g] 105 (0, 0)) := by rw [hwb]; exact heap_alloc_new w _
    have e := (hb'.block _ hlt).trans e0
    exact ⟨cell_of_row w' _ 0 _ _ _ e, cell_of_row w' _ 1 _ _ _ e, cell_of_row w' _ 2 _ _ _ e⟩
  have HC := Lib.hid hcell
  have HBB := Lib.hid hbb
  obtain ⟨i0, hi0, hz0, hz1, hz2⟩ := info_parts Tryd.infoByte
  obtain ⟨c0, c1, c2⟩ := hcell wb (Below.refl _ _)
  obtain ⟨d0, d1, d2⟩ := hcell (wb.alloc (.cells #[.int .u8 ((k.length : Nat) : Int)] 5)) ((Below.refl _ _).alloc (Nat.le_refl _) _)
  have hkn : (((S k).size : Int) % 256) = (k.length : Int) := by rw [S_size]; omega
  have HOWN1 : Hid ((wb.alloc (.cells #[.int .u8 ((k.length : Nat) : Int)] 5)).ownsRow wb.heap.size 5 1 (.slice (some ⟨wb.heap.size, 0, none⟩) 1 1) 1 [.int .u8 (k.length : Int)]) := Lib.hid ⟨rfl, .inr ⟨wb.heap.size, 1, _, rfl, Nat.le_refl _, heap_alloc_new wb _, Nat.le_refl _, by unfold maxLen; omega, rfl, rfl⟩⟩
  clear hcell hbb
  have HB0 : Hid (B (UInt8.ofNat k.length) = .int .u8 (k.length : Int)) := Lib.hid (by unfold B; rw [UInt8.toNat_ofNat']; congr 2; omega)
  have HKL : Hid ((UInt8.ofNat k.length :: k).length = k.length + 1) := Lib.hid (by simp)
  go_enter Tryd.func88, Tryd.ntmps88
  go_upto_region 1 with fail
  rw [← hwb]
  clear hwb
  obtain ⟨N, hN⟩ : ∃ N, N = if g then 65535 else v.length := ⟨_, rfl⟩
  have HONE : Hid (Kv.one ⟨k, v, g⟩ = ((UInt8.ofNat k.length :: k) ++ [UInt8.ofNat (N / 256), UInt8.ofNat (N % 256)]) ++ v) := Lib.hid (by
    unfold Kv.one Kv.tail
    cases g with
    | true =>
      have hv0 : v = [] := h4 rfl
      rw [hN, hv0]
      simp
    | false =>
      rw [hN]
      simp)
  have hN65 : N ≤ 65535 := by rw [hN]; split <;> omega
  clear h4 hr
  go_upto_region 2 with fail
  go_cut [9] (fun t wx => t = .bool g ∧ wx = wb)
  case first =>
    go_wp2_with fail
    go_meet
    exact ⟨rfl, rfl⟩
  case rest =>
  obtain ⟨hx1, hx2⟩ := hcut
  subst hx1
  replace hx2 := hx2.symm
  subst hx2
  go_upto_if 9 with fail
  go_cut [3] (fun t wx => t = .int .i64 (N : Int) ∧ wx = wb)
  case first =>
    cases g with
    | true =>
      go_wp2_with fail
      go_meet
      exact ⟨by rw [hN]; rfl, rfl⟩
    | false =>
      go_wp2_with fail
      go_meet
      exact ⟨by rw [hN]; rfl, rfl⟩
  case rest =>
  obtain ⟨hx1, hx2⟩ := hcut
  subst hx1
  replace hx2 := hx2.symm
  subst hx2
  clear hN
  go_upto_region 5 with (first
    | (at_builtin; refine Lib.wpList_append_own_string _ rfl (.tmp 14) (.tmp 16) 36 9 rfl wb.heap.size 5 i0 Tryd.underlying36 Tryd.underlying9 hi0 hz0 hz1 hz2 (.slice (some ⟨wb.heap.size, 0, none⟩) 1 1) 1 [.int .u8 (k.length : Int)] rfl HOWN1.out (S k) rfl (by rw [S_size]; unfold maxLen; omega) (by rw [S_size]; omega) (by simp) ?_; intro v3 w3 hown3 hgrow3 hnil3))
  have hb3 : Below wb.heap.size wb w3 := ((Below.refl _ _).alloc (Nat.le_refl _) _).grown hgrow3 (by simp) (fun q hq => Nat.le_of_eq (by simpa [Value.ownBlock] using hq))
  have hrow3 : Row wb.heap.size w3 v3 (UInt8.ofNat k.length :: k) := by
    unfold Row
    rw [HKL.out, List.map_cons, HB0.out, show k.length + 1 = 1 + (S k).size by rw [S_size]; omega]
    exact hown3
  obtain ⟨e0, e1, e2⟩ := HC.out w3 hb3
  have HROW3 := Lib.hid hrow3
  have HB3 := Lib.hid hb3
  obtain ⟨A3, c3, rfl, _⟩ := hrow3.form
  have hba : Below w3.heap.size w3 (w3.alloc (.cells #[.int .u8 ((N : Int) / 256), .int .u8 ((N : Int) % 256)] 5)) := (Below.refl _ _).alloc (Nat.le_refl _) _
  have HRA := Lib.hid (own_below hrow3 hba : Row wb.heap.size (w3.alloc (.cells #[.int .u8 ((N : Int) / 256), .int .u8 ((N : Int) % 256)] 5)) (.slice A3 (UInt8.ofNat k.length :: k).length c3) (UInt8.ofNat k.length :: k))
  rw [HKL.out] at HRA
  have HBC : Hid (BC (w3.alloc (.cells #[.int .u8 ((N : Int) / 256), .int .u8 ((N : Int) % 256)] 5)) (some ⟨w3.heap.size, 0, none⟩) [UInt8.ofNat (N / 256), UInt8.ofNat (N % 256)]) := Lib.hid (fun _ => ⟨w3.heap.size, 0, rfl, fun j hj => by
    have hj2 : j = 0 ∨ j = 1 := by simp at hj; omega
    rw [Nat.zero_add, cell_of_row _ _ j _ _ _ (heap_alloc_new w3 _)]
    rcases hj2 with rfl | rfl
    · show some (Value.int .u8 ((N : Int) / 256)) = some (B (UInt8.ofNat (N / 256)))
      unfold B
      rw [UInt8.toNat_ofNat']
      congr 2
      omega
    · show some (Value.int .u8 ((N : Int) % 256)) = some (B (UInt8.ofNat (N % 256)))
      unfold B
      rw [UInt8.toNat_ofNat']
      congr 2
      omega⟩)
  have HBA := Lib.hid hba
  rw [HKL.out]
  clear hown3 hgrow3 hnil3 hb3 hrow3 c0 c1 c2 d0 d1 d2 hba
  go_upto_region 6 with (at_builtin; refine wpList_append_bytes ?hw2 (.tmp 18) (.tmp 24) rfl wb.heap.size (.slice A3 (k.length + 1) c3) (some ⟨w3.heap.size, 0, none⟩) 2 2 (UInt8.ofNat k.length :: k) [UInt8.ofNat (N / 256), UInt8.ofNat (N % 256)] rfl rfl rfl HRA.out HBC.out (by rw [HKL.out]; simp; omega) (Nat.le_trans HB3.out.size HBA.out.size) ?_; rotate_right; intro v4 w4 hown4 hgrow4)
  have hb4 : Below wb.heap.size wb w4 := (HB3.out.trans (HBA.out.mono HB3.out.size)).grown hgrow4 (Nat.le_trans HB3.out.size HBA.out.size) (fun q hq => (World.ownsRow.lt HRA.out q hq).1)
  obtain ⟨q0, q1, q2⟩ := HC.out w4 hb4
  obtain ⟨M, hM⟩ : ∃ M, M = (UInt8.ofNat k.length :: k) ++ [UInt8.ofNat (N / 256), UInt8.ofNat (N % 256)] := ⟨_, rfl⟩
  have hMl : M.length = k.length + 3 := by rw [hM]; simp
  rw [← hM] at hown4 HONE
  have HROW4 := Lib.hid hown4
  have HB4 := Lib.hid hb4
  clear hown4 hgrow4 hb4 e0 e1 e2 HRA HBC
  go_wp2_with (at_builtin; refine Lib.wpList_append_own_string _ rfl (.tmp 26) (.tmp 28) 36 9 rfl wb.heap.size 5 i0 Tryd.underlying36 Tryd.underlying9 hi0 hz0 hz1 hz2 v4 M.length (M.map B) rfl HROW4.out (S v) rfl (by rw [S_size]; unfold maxLen; omega) (by rw [S_size]; omega) HB4.out.size ?_; intro v5 w5 hown5 hgrow5 hnil5)
  go_ret
  have hrow5 : Row wb.heap.size w5 v5 (M ++ v) := by
    unfold Row
    rw [List.length_append, List.map_append]
    exact hown5
  have hb5 : Below wb.heap.size wb w5 := HB4.out.grown hgrow5 HB4.out.size (fun q hq => (World.ownsRow.lt HROW4.out q hq).1)
  obtain ⟨A5, c5, rfl, _⟩ := hrow5.form
  rw [HONE.out]
  exact ⟨A5, c5, rfl, own_base5 hrow5 HBB.out.size, HBB.out.trans (hb5.mono HBB.out.size)⟩
end Go.Proofs.YtfceljbmdcbciaaDoor
namespace Go.Proofs.YtfceljbmdcbciaaDoor
set_option maxRecDepth 8000
open Go.RowKit

theorem conv_bytes (w : World) (l : List UInt8) : ∃ cap w', (convert 9 36 (.string (S l))).run Tryd.prog w = .ok (.slice (some ⟨w.heap.size, 0, none⟩) (S l).size cap) w' ∧ Below w.heap.size w w' ∧ BC w' (some ⟨w.heap.size, 0, none⟩) l := by
  refine ⟨_, _, Lib.run_convert_string_bytes (P := Tryd.prog) w 9 36 5 (S l) Tryd.underlying9 Tryd.underlying36 Tryd.underlying5, ⟨rfl, rfl, rfl, by rw [Lib.bytesWorld_size]; omega, fun k hk => Lib.bytesWorld_at_old _ _ _ _ hk⟩, fun hn => ⟨w.heap.size, 0, rfl, fun j hj => ?_⟩⟩
  rw [Nat.zero_add, Lib.bytesWorld_cell w _ _ j (by rw [S_size]; exact hj)]
  unfold B
  congr 2
  show ((((S l).data.toList.getD j 0).toNat : Nat) : Int) = _
  have e : (S l).data.toList = l := by unfold S; simp
  rw [e]
  simp [List.getD, hj]
end Go.Proofs.YtfceljbmdcbciaaDoor
