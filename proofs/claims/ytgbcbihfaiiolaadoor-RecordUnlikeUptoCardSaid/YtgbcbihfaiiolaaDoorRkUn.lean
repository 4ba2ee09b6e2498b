/- The call RecordUnlike answers true, for any two records with names and parents of at most 2^30 bytes. -/
import Derived.Test.YtgbcbihfaiiolaaDoorRkG
namespace Go.Proofs.YtgbcbihfaiiolaaDoor
set_option maxRecDepth 8000
open Go.RowKit

set_option maxHeartbeats 3200000 in
theorem recordUnlike_any (a b : Rk.R) (ha : a.name.length ≤ 1073741824) (ha2 : a.parent.length ≤ 1073741824) (hb : b.name.length ≤ 1073741824) (hb2 : b.parent.length ≤ 1073741824) (w : World) (hE : EnvT w) :
    Calls Tryd.prog 5 #[recV a, recV b] w (AwakePost w) := by
  have hFa := fun w' => recFew_any a w'
  have hFb := fun w' => recFew_any b w'
  have hNa := fun w' h => recEncode_any a ha ha2 w' h
  have hNb := fun w' h => recEncode_any b hb hb2 w' h
  have HEQ : Hid (Rk.right a = true → Rk.right b = true → a.name = b.name → (decide (Rk.enc a = Rk.enc b) = decide (a = b))) := Lib.hid fun h1 h2 h3 => by
    rw [Bool.eq_iff_iff, decide_eq_true_eq, decide_eq_true_eq]
    exact ⟨fun h => Rk.enc_inj ((Rk.right_iff a).1 h1) ((Rk.right_iff b).1 h2) h3 h, fun h => by rw [h]⟩
  obtain ⟨ya, ea, hya, hca⟩ := encV_cases a
  obtain ⟨yb, eb, hyb, hcb⟩ := encV_cases b
  rw [hya] at hNa
  rw [hyb] at hNb
  have HP : Hid (ea = 0 → eb = 0 → a.name = b.name → (decide (ya = yb) = decide (a = b))) := Lib.hid fun h1 h2 h3 => by
    rcases hca with ⟨h4, h5, _⟩ | ⟨_, _, h6⟩
    · rcases hcb with ⟨h7, h8, _⟩ | ⟨_, _, h9⟩
      · rw [h5, h8]
        exact HEQ.out h4 h7 h3
      · omega
    · omega
  clear HEQ hya hyb hca hcb
  generalize Rk.few a = f1 at hFa
  generalize Rk.few b = f2 at hFb
  obtain ⟨w1, hw1⟩ : ∃ w1, w1 = w.alloc (.cells (recCs a) 23) := ⟨_, rfl⟩
  obtain ⟨w2, hw2⟩ : ∃ w2, w2 = w1.alloc (.cells (recCs b) 23) := ⟨_, rfl⟩
  have s1 : w1.heap.size = w.heap.size + 1 := by rw [hw1]; simp
  have s2 : w2.heap.size = w.heap.size + 1 + 1 := by rw [hw2]; simp [s1]
  have b1 : Below w.heap.size w w1 := by rw [hw1]; exact (Below.refl _ _).alloc (Nat.le_refl _) _
  have b2 : Below w1.heap.size w1 w2 := by rw [hw2]; exact (Below.refl _ _).alloc (Nat.le_refl _) _
  have HK : Hid (∀ w', Below w2.heap.size w2 w' → RecAt w' w.heap.size a ∧ RecAt w' (w.heap.size + 1) b) := Lib.hid fun w' h => by
    have e1 : w1.heap[w.heap.size]? = some (.cells (recCs a) 23 (0, 0)) := by rw [hw1]; exact heap_alloc_new w _
    have e2 : w2.heap[w1.heap.size]? = some (.cells (recCs b) 23 (0, 0)) := by rw [hw2]; exact heap_alloc_new w1 _
    have h12 := b2.trans (h.mono b2.size)
    rw [← s1]
    exact ⟨recAt_blk ((h12.block _ (by omega)).trans e1), recAt_blk ((h.block _ (by omega)).trans e2)⟩
  have hz := b1.trans (b2.mono b1.size)
  have hEz := hE.next hz
  have hA := awake13_any w2 hEz
  have HZ := Lib.hid hz
  obtain ⟨ka, na, pa, ua, sa, la, ma, da, xa, fa⟩ := a
  obtain ⟨kb, nb, pb, ub, sb, lb, mb, db, xb, fb⟩ := b
  unfold recCs at hw1 hw2
  unfold recV at hFa hFb hNa hNb ⊢
  dsimp only at hw1 hw2 hFa hFb hNa hNb ha ha2 hb hb2 ⊢
  clear s1 s2 b1 b2 hz
  go_enter Tryd.func5, Tryd.ntmps5
  go_upto_region 1 with fail
  rw [← hw1, ← hw2]
  clear hw1 hw2
  go_upto_region 6 with (first
    | (go_at_call 8; refine hA.mono ?_; rintro e w3 ⟨rfl, hq⟩; have hz := hq; have hEz3 := hEz.next hq; obtain ⟨⟨c0, c1, c2, c3, c4, c5, c6, c7, c8, c9⟩, ⟨d0, d1, d2, d3, d4, d5, d6, d7, d8, d9⟩⟩ := HK.out _ hz; clear hA)
    | (go_at_call 9; with_reducible refine (hFa _).mono ?_; rintro e w4 ⟨rfl, hq⟩; have hz4 := hz.trans (hq.mono hz.size); have hEz4 := hEz3.next hq; clear c0 c1 c2 c3 c4 c5 c6 c7 c8 c9 d0 d1 d2 d3 d4 d5 d6 d7 d8 d9 hq hz hEz3 hFa; obtain ⟨⟨c0, c1, c2, c3, c4, c5, c6, c7, c8, c9⟩, ⟨d0, d1, d2, d3, d4, d5, d6, d7, d8, d9⟩⟩ := HK.out _ hz4)
    | (go_at_call 9; with_reducible refine (hFb _).mono ?_; rintro e w5 ⟨rfl, hq⟩; have hz5 := hz4.trans (hq.mono hz4.size); have hEz5 := hEz4.next hq; clear c0 c1 c2 c3 c4 c5 c6 c7 c8 c9 d0 d1 d2 d3 d4 d5 d6 d7 d8 d9 hq hz4 hEz4 hFb; obtain ⟨⟨c0, c1, c2, c3, c4, c5, c6, c7, c8, c9⟩, ⟨d0, d1, d2, d3, d4, d5, d6, d7, d8, d9⟩⟩ := HK.out _ hz5)
    | (go_at_call 10; with_reducible refine (hNa _ hEz5).mono ?_; rintro e w6 ⟨rfl, hq⟩; have hz6 := hz5.trans (hq.mono hz5.size); have hEz6 := hEz5.next hq; clear c0 c1 c2 c3 c4 c5 c6 c7 c8 c9 d0 d1 d2 d3 d4 d5 d6 d7 d8 d9 hq hz5 hEz5 hNa; obtain ⟨⟨c0, c1, c2, c3, c4, c5, c6, c7, c8, c9⟩, ⟨d0, d1, d2, d3, d4, d5, d6, d7, d8, d9⟩⟩ := HK.out _ hz6)
    | (go_at_call 10; with_reducible refine (hNb _ hEz6).mono ?_; rintro e w7 ⟨rfl, hq⟩; have hz7 := hz6.trans (hq.mono hz6.size); clear c0 c1 c2 c3 c4 c5 c6 c7 c8 c9 d0 d1 d2 d3 d4 d5 d6 d7 d8 d9 hq hz6 hEz6 hNb; obtain ⟨⟨c0, c1, c2, c3, c4, c5, c6, c7, c8, c9⟩, ⟨d0, d1, d2, d3, d4, d5, d6, d7, d8, d9⟩⟩ := HK.out _ hz7))
  have HZ7 := Lib.hid (HZ.out.trans (hz7.mono HZ.out.size))
  clear hz7 HK hE hEz ha ha2 hb hb2
  have hy : ((S ya).toList == (S yb).toList) = decide (ya = yb) := S_beq ya yb
  cases f1 <;> cases f2 <;> go_wp2_with fail
  all_goals
    go_ret
    refine ⟨ret_bool ?_, HZ7.out⟩
    clear c0 c1 c2 c3 c4 c5 c6 c7 c8 c9 d0 d1 d2 d3 d4 d5 d6 d7 d8 d9
    first
      | rfl
      | (have hne : (!(S na).toList == (S nb).toList) = false := by assumption
         have hnn : na = nb := by simpa [S_list] using hne
         rw [HP.out (by assumption) (by assumption) hnn]
         simp_all [S_list])
end Go.Proofs.YtgbcbihfaiiolaaDoor
