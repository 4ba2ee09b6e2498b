/- What the statements' example of package record answers: true. -/
import Derived.Test.YtgbcbihfaiiolaaDoorRkE
import Derived.Test.YtgbcbihfaiiolaaDoorTkH
namespace Go.Proofs.YtgbcbihfaiiolaaDoor
set_option maxRecDepth 8000
open Go.RowKit

def exR : Rk.R := ⟨1, Tk.name 1 7, [], [117], [], [], 5, 5, 0, false⟩
theorem tell_nil : Tk.tell [] = (0, 0, false) := Tk.tell_none fun k n h => by
  have := h.eq
  unfold Tk.name at this
  have h2 := congrArg List.length this
  simp at h2
theorem exR_ok : Rk.Ok exR := by
  have h : Tk.tell exR.name = (1, 7, true) := Tk.tell_name (k := 1) (n := 7) ⟨by omega, by omega, by omega, rfl⟩
  refine ⟨by rw [h], by rw [h]; rfl, .inr rfl, ?_, by decide, by decide, by decide, by decide, by decide, by decide, by decide, by decide⟩
  show Rk.comes 1 (Tk.tell []).1 = true
  rw [tell_nil]
  rfl
set_option maxHeartbeats 1600000 in
theorem awake13_any (w : World) (hE : EnvT w) :
    Calls Tryd.prog 8 #[] w (AwakePost w) := by
  have hN := fun w' => refName_any 1 7 (by omega) w'
  have hN2 : nameV 1 7 = .tuple #[.string (S (Tk.name 1 7)), .int .i64 0] := nameV_good (k := 1) (by omega) (by omega) 7
  rw [hN2] at hN
  have hr := (Rk.right_iff exR).2 exR_ok
  have hEn := fun w' h => recEncode_any exR (by decide) (by decide) w' h
  unfold encV at hEn
  rw [hr, if_pos rfl] at hEn
  have hD := fun w' h => recDecode_any exR.name (Rk.enc exR) (by decide) (by rw [Rk.enc_len]; decide) w' h
  unfold decV at hD
  rw [Rk.dec_enc exR_ok] at hD
  have hR := fun w' h => recRight_any exR (by decide) (by decide) w' h
  rw [hr] at hR
  have hlen : (Rk.enc exR).length = 24 := Rk.enc_len exR
  have h0 : ∃ tl, Rk.enc exR = 1 :: tl := ⟨_, rfl⟩
  unfold recV at hEn hR hD
  unfold exR at hEn hR hD hlen h0
  dsimp only at hEn hR hD hlen h0
  generalize Rk.enc ⟨1, Tk.name 1 7, [], [117], [], [], 5, 5, 0, false⟩ = x at hEn hD hlen h0
  generalize Tk.name 1 7 = n at hN hEn hR hD
  obtain ⟨tl, rfl⟩ := h0
  have hi := fun w' => idx_S (1 :: tl) 0 (by simp) w'
  have hsz : ((S (1 :: tl)).size : Int) = 24 := by show (((1 :: tl).length : Nat) : Int) = 24; rw [hlen]; rfl
  clear hr hlen hN2
  obtain ⟨wa, hwa⟩ : ∃ wa, wa = w.alloc (.cells #[.int .i64 1, .string (S n), .string ⟨#[]⟩, .string ⟨#[117]⟩, .string ⟨#[]⟩, .string ⟨#[]⟩, .int .i64 5, .int .i64 5, .int .i64 0, .bool false] 23) := ⟨_, rfl⟩
  have hba : Below w.heap.size w wa := by rw [hwa]; exact (Below.refl _ _).alloc (Nat.le_refl _) _
  have hEa := hE.next hba
  have HC : Hid (∀ w', Below wa.heap.size wa w' → RecAt w' w.heap.size ⟨1, n, [], [117], [], [], 5, 5, 0, false⟩) := by
    have hsz : wa.heap.size = w.heap.size + 1 := by rw [hwa]; simp
    rw [hsz, hwa]
    exact recAt_alloc w ⟨1, n, [], [117], [], [], 5, 5, 0, false⟩
  have hEn1 := hEn wa hEa
  obtain ⟨c0, c1, c2, c3, c4, c5, c6, c7, c8, c9⟩ := HC.out wa (Below.refl _ _)
  clear hEn
  go_enter Tryd.func8, Tryd.ntmps8
  go_upto_region 3 with (go_at_call 18; refine (hN _).mono ?_; rintro e w1 ⟨rfl, rfl⟩)
  rw [← hwa]
  clear hwa
  go_upto_region 5 with (first
    | (go_at_call 12; refine (hD _ hE2).mono ?_; rintro e w3 ⟨rfl, hb3⟩; have hE3 := hE2.next hb3; clear c0 c1 c2 c3 c4 c5 c6 c7 c8 c9)
    | (go_at_call 10; refine hEn1.mono ?_; rintro e w2 ⟨rfl, hb2⟩; have hE2 := hEa.next hb2; clear c0 c1 c2 c3 c4 c5 c6 c7 c8 c9; obtain ⟨c0, c1, c2, c3, c4, c5, c6, c7, c8, c9⟩ := HC.out w2 hb2))
  have hb23 := hb2.trans (hb3.mono hb2.size)
  have hbt : Below w3.heap.size w3 (w3.alloc (.cells (recCs ⟨1, n, [], [117], [], [], 5, 5, 0, false⟩) 23)) := (Below.refl _ _).alloc (Nat.le_refl _) _
  have ht := recAt_blk (r := ⟨1, n, [], [117], [], [], 5, 5, 0, false⟩) (heap_alloc_new w3 (.cells (recCs ⟨1, n, [], [117], [], [], 5, 5, 0, false⟩) 23))
  unfold recCs at hbt ht
  dsimp only at hbt ht
  generalize w3.alloc (.cells #[.int .i64 1, .string (S n), .string (S []), .string (S [117]), .string (S []), .string (S []), .int .i64 5, .int .i64 5, .int .i64 0, .bool false] 23) = wt at hbt ht ⊢
  obtain ⟨d0, d1, d2, d3, d4, d5, d6, d7, d8, d9⟩ := ht
  have hbw := hb23.trans (hbt.mono hb23.size)
  obtain ⟨c0, c1, c2, c3, c4, c5, c6, c7, c8, c9⟩ := HC.out wt hbw
  have hEt := hE3.next hbt
  clear hD hEn1 hN hE2 hE3 hb2 hb3 hb23 hbt HC
  go_wp2_with (go_at_call 14; refine (hR _ hEt).mono ?_; rintro e w4 ⟨rfl, hb4⟩)
  go_ret
  exact ⟨rfl, hba.trans ((hbw.trans (hb4.mono hbw.size)).mono hba.size)⟩
end Go.Proofs.YtgbcbihfaiiolaaDoor
