/- The statement ResponseWrites answers true, for any response, status and name, where the variables of the library that it reaches read as their texts lay them. -/
import Derived.Test.YtehgigfngelkjaaDoorEu
import Derived.Test.YtehgigfngelkjaaDoorMakesWalk
namespace Go.Proofs.YtehgigfngelkjaaDoor
set_option maxRecDepth 8000
open Go.RowKit

theorem keep3 {w1 w' : World} {B : Nat} {x y z : Value} (h : Below w1.heap.size w1 w') (hB : B < w1.heap.size) (d : BlkR w1 B x y z) : w'.cell? ⟨B, 0, none⟩ = some x ∧ w'.cell? ⟨B, 1, none⟩ = some y ∧ w'.cell? ⟨B, 2, none⟩ = some z ∧ Below w1.heap.size w1 w' := by
  have e : BlkR w' B x y z := (h.block _ hB).trans d
  exact ⟨e.c0, e.c1, e.c2, h⟩
theorem writeRes_parts (s : Int) (l : List Pct.PairL) (b : List UInt8) : ∃ (t : List UInt8) (n : Int), writeRes s l b = .tuple #[.string (S t), .int .i64 n] := by
  unfold writeRes
  split
  · exact ⟨_, _, rfl⟩
  · exact ⟨[], 1, rfl⟩
theorem beqS (x : List UInt8) : ((S x).toList == (S x).toList) = true := by simp

set_option maxHeartbeats 3200000 in
theorem responseWrites_any (s : Int) (A : Option Addr) (cap : Nat) (l : List Pct.PairL) (b : List UInt8) (st : Int) (nm0 : ByteArray) (W : World) (he : EnvC W) (hs : (Lit.int .i64 s).wf = true) (hl : PCells W W.heap.size A l) (hm : l.length ≤ 9223372036854775807) (hcap : l.length ≤ cap) (hnil : A = none → cap = 0) (hst : (Lit.int .i64 st).wf = true) :
    Calls Tryd.prog 3 #[rspV s (.slice A l.length cap) b, .int .i64 st, .string nm0] W (AwakePost W) := by
  obtain ⟨nm, rfl⟩ : ∃ t, nm0 = S t := ⟨nm0.data.toList, rfl⟩
  have htz : (S nm).size = nm.length := rfl
  unfold rspV
  go_enter Tryd.func3, Tryd.ntmps3
  go_upto_region 1 with fail
  have B0 : BlkR (W.alloc (.cells #[.int .i64 s, .slice A l.length cap, .string (S b)] 24)) W.heap.size (.int .i64 s) (.slice A l.length cap) (.string (S b)) := heap_alloc_new W _
  have hb0 : Below W.heap.size W (W.alloc (.cells #[.int .i64 s, .slice A l.length cap, .string (S b)] 24)) := (Below.refl _ _).alloc (Nat.le_refl _) _
  have hs0 : W.heap.size < (W.alloc (.cells #[.int .i64 s, .slice A l.length cap, .string (S b)] 24)).heap.size := by simp
  have hp0 := hl.next hb0
  generalize (W.alloc (.cells #[.int .i64 s, .slice A l.length cap, .string (S b)] 24)) = W0 at B0 hb0 hs0 hp0 ⊢
  have HR := Lib.hid (fun w' (h : Below W0.heap.size W0 w') => (show BlkR w' W.heap.size (.int .i64 s) (.slice A l.length cap) (.string (S b)) from (h.block _ hs0).trans B0))
  have HP := Lib.hid (fun w' (h : Below W0.heap.size W0 w') => hp0.next h)
  have HE := Lib.hid (show ∀ w', Below W0.heap.size W0 w' → EnvC w' from fun w' h => he.next (hb0.trans (h.mono (Nat.le_of_lt hs0))))
  have HEND := Lib.hid (show ∀ w', Below W0.heap.size W0 w' → AwakePost W (.returned (.bool true)) w' from fun w' h => ⟨rfl, hb0.trans (h.mono (Nat.le_of_lt hs0))⟩)
  have HWQ := Lib.hid (show ∀ w', Below W0.heap.size W0 w' → Wr w' (.slice A l.length cap) l from fun w' h => ⟨A, cap, rfl, hp0.next h, hcap, hnil⟩)
  have HS0 := Lib.hid hs0
  clear B0 hb0 hp0 he hl hcap hnil
  go_wp2_with fail
  refine (awake_any W0 (HE.out _ (Below.refl _ _))).mono ?_
  rintro e w1 ⟨rfl, hb1⟩
  have r0 := (HR.out _ hb1).c0
  have r1 := (HR.out _ hb1).c1
  have r2 := (HR.out _ hb1).c2
  go_wp2_with fail
  refine (refFew_any s A cap l b w1 (HP.out _ hb1) hm).mono ?_
  rintro e w2 ⟨rfl, hbx⟩
  have hb2 : Below W0.heap.size W0 w2 := hb1.trans (hbx.mono hb1.size)
  clear r0 r1 r2 hbx hb1
  cases hfc : fewR l b with
  | false =>
    clear hfc
    go_wp2
    go_ret
    exact HEND.out _ hb2
  | true =>
    by_cases h4 : nm.length ≤ 60
    · have HF := Lib.hid (fewR_is hfc)
      have HQ := Lib.hid (show ∀ k (h : k < l.length), l[k].1.length ≤ 1073741824 ∧ l[k].2.length ≤ 1073741824 from fun k hk => by have := HF.out.1 k hk; exact ⟨by omega, by omega⟩)
      have hl50 : l.length ≤ 1000 := by have := HF.out.2; omega
      clear hfc
      have r0 := (HR.out _ hb2).c0
      have r1 := (HR.out _ hb2).c1
      have r2 := (HR.out _ hb2).c2
      have hW2 := write_to s _ l b w2 (HE.out _ hb2) hs (HWQ.out _ hb2) HQ.out
      have hW3 := fun w' (h : Below W0.heap.size W0 w') => refWrite_any s A cap l b w' (HP.out _ h) HQ.out
      unfold rspV at hW2 hW3
      obtain ⟨t, n, hres⟩ := writeRes_parts s l b
      rw [hres] at hW2 hW3
      clear hres
      go_wp2_with fail
      refine hW2.mono ?_
      rintro e w3 ⟨rfl, hbx⟩
      have hb3 : Below W0.heap.size W0 w3 := hb2.trans (hbx.mono hb2.size)
      clear r0 r1 r2 hbx hb2 hW2
      have r0 := (HR.out _ hb3).c0
      have r1 := (HR.out _ hb3).c1
      have r2 := (HR.out _ hb3).c2
      go_wp2_with fail
      refine (hW3 _ hb3).mono ?_
      rintro e w4 ⟨rfl, hbx⟩
      have hb4 : Below W0.heap.size W0 w4 := hb3.trans (hbx.mono hb3.size)
      clear r0 r1 r2 hbx hb3 hW3
      have hB4 := HR.out _ hb4
      have hs4 : W.heap.size < w4.heap.size := Nat.lt_of_lt_of_le HS0.out hb4.size
      have HC1 := Lib.hid (fun w' (h : Below w4.heap.size w4 w') => right_any s A cap l b w' hs (HP.out _ (hb4.trans (h.mono hb4.size))) HQ.out)
      have HC2 := Lib.hid (fun w' (h : Below w4.heap.size w4 w') => refRight_any s A cap l b w' (HP.out _ (hb4.trans (h.mono hb4.size))) HQ.out)
      have HC3 := Lib.hid (fun w' => reason_to st w' hst)
      have HC4 := Lib.hid (fun w' => refReason_any st w')
      have HC5 := Lib.hid (fun w' (h : Below w4.heap.size w4 w') => get_any s A cap l b nm w' (HP.out _ (hb4.trans (h.mono hb4.size))) hl50 (fun k hk => (HQ.out k hk).1))
      have HC6 := Lib.hid (fun w' (h : Below w4.heap.size w4 w') => refGet_any s A cap l b nm w' (HP.out _ (hb4.trans (h.mono hb4.size))) hl50 (fun k hk => (HQ.out k hk).1))
      have HGL := Lib.hid (Rsp.get_len nm l)
      unfold rspV at HC1 HC2 HC5 HC6
      generalize Rsp.right s l b = r at HC1 HC2
      generalize Rsp.reason st = rs at HC3 HC4
      generalize Rsp.get nm l = gl at HC5 HC6 HGL
      have q1 := beqS t
      have q2 := beqS rs
      have q3 : (r == r) = true := by simp
      have q4 : (n == n) = true := by simp
      have r0 := hB4.c0
      have r1 := hB4.c1
      have r2 := hB4.c2
      go_wp2
      go_region_held3 (fun w' => w'.cell? ⟨W.heap.size, 0, none⟩ = some (.int .i64 s) ∧ w'.cell? ⟨W.heap.size, 1, none⟩ = some (.slice A l.length cap) ∧ w'.cell? ⟨W.heap.size, 2, none⟩ = some (.string (S b)) ∧ Below w4.heap.size w4 w')
        (first
          | exact keep3 hb17 hs4 hB4
          | exact keep3 hb16 hs4 hB4
          | exact keep3 hb15 hs4 hB4
          | exact keep3 hb13 hs4 hB4
          | exact keep3 hb12 hs4 hB4
          | exact keep3 hb11 hs4 hB4
          | exact keep3 (Below.drew (Below.refl _ _)) hs4 hB4)
        (first
          | (go_at_call 13; refine (HC1.out _ (Below.drew (Below.refl _ _))).mono ?_; rintro e w11 ⟨rfl, hbx⟩; have hb11 : Below w4.heap.size w4 w11 := (Below.drew (Below.refl w4.heap.size w4)).trans hbx)
          | (go_at_call 14; refine (HC2.out _ hb11).mono ?_; rintro e w12 ⟨rfl, hbx⟩; have hb12 : Below w4.heap.size w4 w12 := hb11.trans (hbx.mono hb11.size))
          | (go_at_call 15; refine (HC3.out _).mono ?_; rintro e w13 ⟨rfl, hbx⟩; have hb13 : Below w4.heap.size w4 w13 := hb12.trans (hbx.mono hb12.size))
          | (go_at_call 16; refine (HC4.out _).mono ?_; rintro e w14 ⟨rfl, rfl⟩)
          | (go_at_call 18; refine (HC5.out _ hb13).mono ?_; rintro e w15 ⟨v5, rfl, hr5, hbx⟩; obtain ⟨A5, cap5, rfl, hc5⟩ := hr5.reads; have hb15 : Below w4.heap.size w4 w15 := hb13.trans (hbx.mono hb13.size))
          | (go_at_call 19; refine (HC6.out _ hb15).mono ?_; rintro e w16 ⟨v6, rfl, hr6, hbx⟩; obtain ⟨A6, cap6, rfl, hc6⟩ := hr6.reads; have hb16 : Below w4.heap.size w4 w16 := hb15.trans (hbx.mono hb15.size); have hc56 := hc5.next hbx)
          | (go_at_call 17; refine (texts_any A5 A6 cap5 cap6 gl gl w16 hc56 hc6 (by have := HGL.out; omega)).mono ?_; rintro e w17 ⟨rfl, hbx⟩; rw [show decide (gl = gl) = true from by simp]; have hb17 : Below w4.heap.size w4 w17 := hb16.trans ((below_of_drewN hbx).mono hb16.size)))
      have hbz : Below W0.heap.size W0 w17 := hb4.trans (hb17.mono hb4.size)
      go_wp2
      go_ret
      exact HEND.out _ hbz
    · clear hfc
      go_wp2
      go_ret
      exact HEND.out _ hb2
end Go.Proofs.YtehgigfngelkjaaDoor
