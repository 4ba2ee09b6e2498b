/- What package response's Found answers, for any place and at most 1000 cookies. -/
import Derived.Test.YtehgigfngelkjaaDoorEf
namespace Go.Proofs.YtehgigfngelkjaaDoor
set_option maxRecDepth 8000
open Go.RowKit

def locName : List UInt8 := [76, 111, 99, 97, 116, 105, 111, 110]
def setName : List UInt8 := [83, 101, 116, 45, 67, 111, 111, 107, 105, 101]
namespace Rsp
def foundL (tt : List UInt8) (cs : List (List UInt8)) : List Pct.PairL := (locName, tt) :: cs.map fun c => (setName, c)
theorem foundL_snoc (tt : List UInt8) (cs : List (List UInt8)) (c : List UInt8) : foundL tt (cs ++ [c]) = foundL tt cs ++ [(setName, c)] := by simp [foundL]
theorem foundL_len (tt : List UInt8) (cs : List (List UInt8)) : (foundL tt cs).length = cs.length + 1 := by simp [foundL]
end Rsp

def BlkR (w : World) (g : Nat) (x y z : Value) : Prop := w.heap[g]? = some (.cells #[x, y, z] 24 (0, 0))
section
variable {w : World} {g : Nat} {x y z : Value}
theorem BlkR.c0 (h : BlkR w g x y z) : w.cell? ⟨g, 0, none⟩ = some x := cell_of_row w g 0 _ _ _ h
theorem BlkR.c1 (h : BlkR w g x y z) : w.cell? ⟨g, 1, none⟩ = some y := cell_of_row w g 1 _ _ _ h
theorem BlkR.c2 (h : BlkR w g x y z) : w.cell? ⟨g, 2, none⟩ = some z := cell_of_row w g 2 _ _ _ h
theorem BlkR.fr (h : BlkR w g x y z) (i : Nat) : w.frozen? ⟨g, i, none⟩ = false := frozen_of_row w g i _ _ h
theorem BlkR.set0 (h : BlkR w g x y z) (u : Value) : BlkR (w.setCell ⟨g, 0, none⟩ u) g u y z := by
  unfold BlkR at h ⊢
  rw [heap_setCell_same w g 0 _ _ _ h]
  rfl
theorem BlkR.set1 (h : BlkR w g x y z) (u : Value) : BlkR (w.setCell ⟨g, 1, none⟩ u) g x u z := by
  unfold BlkR at h ⊢
  rw [heap_setCell_same w g 1 _ _ _ h]
  rfl
theorem BlkR.set2 (h : BlkR w g x y z) (u : Value) : BlkR (w.setCell ⟨g, 2, none⟩ u) g x y u := by
  unfold BlkR at h ⊢
  rw [heap_setCell_same w g 2 _ _ _ h]
  rfl
theorem own_setCell {base : Nat} {e : TypeId} {size : Nat} {v : Value} {n i : Nat} {xs : List Value} (h : w.ownsRow base e size v n xs) (hlt : g < base) (u : Value) : (w.setCell ⟨g, i, none⟩ u).ownsRow base e size v n xs :=
  ⟨h.1, h.2.imp id fun ⟨g', cap, cur, hv, hb, hg, r⟩ => ⟨g', cap, cur, hv, hb, (Below.heap_setCell w ⟨g, i, none⟩ u g' (by show g' ≠ g; omega)).trans hg, r⟩⟩
end
theorem prow_snoc1 {base : Nat} {w1 : World} {acc : List Pct.PairL} {q : Pct.PairL} {gg cap : Nat} (h : w1.ownsRow base 44 2 (.slice (some ⟨gg, 0, none⟩) (acc.length + 1) cap) (acc.length + 1) (cells2 acc ++ [.string (S q.1), .string (S q.2)])) : PRow base w1 (.slice (some ⟨gg, 0, none⟩) (acc.length + 1) cap) (acc ++ [q]) := by
  have h2 := prow_snoc h
  rw [List.length_append] at h2
  exact h2
set_option maxHeartbeats 800000 in
theorem found_any (tt : List UInt8) (A : Option Addr) (cap : Nat) (cs : List (List UInt8)) (w : World) (hl : SCells w w.heap.size A cs) (hm : cs.length ≤ 1000) :
    Calls Tryd.prog 24 #[.string (S tt), .slice A cs.length cap] w fun e w' => ∃ v, e = .returned (rspV 302 v []) ∧ PRow w.heap.size w' v (Rsp.foundL tt cs) ∧ Below w.heap.size w w' := by
  obtain ⟨i0, hi0, hz0, hz1, hz2⟩ := info_parts Tryd.infoPair
  unfold rspV
  go_enter Tryd.func24, Tryd.ntmps24
  go_upto_region 1 with fail
  have hb0 : Below w.heap.size w (w.alloc (.cells #[.int .i64 0, .slice none 0 0, .string ⟨#[]⟩] 24)) := (Below.refl _ _).alloc (Nat.le_refl _) _
  have hbk0 : (w.alloc (.cells #[.int .i64 0, .slice none 0 0, .string ⟨#[]⟩] 24)).heap[w.heap.size]? = some (.cells #[.int .i64 0, .slice none 0 0, .string ⟨#[]⟩] 24 (0, 0)) := heap_alloc_new w _
  have hs0 : w.heap.size < (w.alloc (.cells #[.int .i64 0, .slice none 0 0, .string ⟨#[]⟩] 24)).heap.size := by simp
  generalize (w.alloc (.cells #[.int .i64 0, .slice none 0 0, .string ⟨#[]⟩] 24)) = w1 at hb0 hbk0 hs0 ⊢
  have hl1 : ∀ k (hk : k < cs.length), ∃ b off, A = some ⟨b, off, none⟩ ∧ b < w1.heap.size ∧ w1.cell? ⟨b, off + k, none⟩ = some (.string (S cs[k])) := by
    intro k hk
    obtain ⟨b, off, rfl, hlt, hc⟩ := hl (by omega)
    exact ⟨b, off, rfl, by omega, (hb0.cell (p := ⟨b, off + k, none⟩) hlt).trans (hc k hk)⟩
  clear hl
  go_wp2
  have hr0 : PRow w1.heap.size (w1.alloc (.cells #[.string ⟨#[76, 111, 99, 97, 116, 105, 111, 110]⟩, .string (S tt)] 44)) (.slice (some ⟨w1.heap.size, 0, none⟩) 1 1) [(locName, tt)] := World.ownsRow_lit w1 #[.string (S locName), .string (S tt)] 1 (Nat.le_refl _) (by decide) rfl
  go_loopw [5, 13] (fun x i wr => ∃ (k : Nat) (ps : List Pct.PairL), k ≤ cs.length ∧ i = .int .i64 k ∧ ps = Rsp.foundL tt (cs.take k) ∧ PRow w1.heap.size wr x ps ∧ Below w1.heap.size w1 wr) (fun _ i _ => cs.length - (intOf i).toNat)
  case atStart => exact ⟨0, [(locName, tt)], Nat.zero_le _, rfl, rfl, hr0, (Below.refl _ _).alloc (Nat.le_refl _) _⟩
  case round =>
    obtain ⟨k, ps, hk, rfl, hps, hrow, hb⟩ := hrel
    have hbs := hb.size
    have hpl : ps.length ≤ 1001 := by
      rw [hps, Rsp.foundL_len]
      have h2 : (cs.take k).length ≤ k := List.length_take_le _ _
      omega
    have HPS := Lib.hid hps
    clear hps hr0
    have h63 : ps.length + 1 ≤ maxLen := by unfold maxLen; omega
    by_cases hlt : k < cs.length
    · obtain ⟨ab, off, rfl, hbb, c0'⟩ := hl1 k hlt
      have HS := Lib.hid (show Rsp.foundL tt (cs.take (k + 1)) = ps ++ [(setName, cs[k])] by
        rw [List.take_succ_eq_append_getElem hlt, Rsp.foundL_snoc, HPS.out])
      obtain ⟨v, hv⟩ : ∃ v, v = cs[k] := ⟨_, rfl⟩
      rw [← hv] at c0' HS
      clear hv hl1
      have c0 : wr.cell? ⟨ab, off + k, none⟩ = some (.string (S v)) := (hb.cell (p := ⟨ab, off + k, none⟩) hbb).trans c0'
      clear c0'
      have j0 : (0 : Int) ≤ (k : Int) := by omega
      have j1 : (k : Int) < (cs.length : Int) := by omega
      go_wp2_with (at_builtin; refine wpList_append_lies _ rfl (.tmp 17) (.tmp 20) _ rfl w1.heap.size 44 i0 _ 2 32 Tryd.underlying22 hi0 hz0 hz1 hz2 rfl (by omega) _ ps.length (cells2 ps) rfl (hrow.alloc _) ⟨wr.heap.size, 0, none⟩ 1 1 [.string (S setName), .string (S v)] rfl rfl (World.news_of_block (cs := #[.string (S setName), .string (S v)]) (t := 44) (fr := (0, 0)) (heap_alloc_new wr _)) (by simp [Value.oneCell']) (by omega) (by omega) (by omega) (by simp; omega) (wr.heap.size + 1) (by simp) ?_; intro gg cap w3 hown3 hgrow hat hlt1)
      go_roundw
      case rel => exact ⟨k + 1, ps ++ [(setName, v)], by omega, by go_num, HS.out.symm, prow_snoc1 hown3, (hb.alloc hbs _).grown hgrow (by simp; omega) (fun k hk => (hrow.lt k hk).1)⟩
      case measure => simp [intOf]; omega
    · have HE := Lib.hid (show ps = Rsp.foundL tt cs by rw [HPS.out, List.take_of_length_le (by omega)])
      have hbk : wr.heap[w.heap.size]? = some (.cells #[.int .i64 0, .slice none 0 0, .string ⟨#[]⟩] 24 (0, 0)) := (hb.block _ hs0).trans hbk0
      have hbw : Below w.heap.size w wr := hb0.trans (hb.mono (Nat.le_of_lt hs0))
      obtain ⟨A', cap', rfl⟩ := hrow.form
      have k0 : BlkR wr w.heap.size (.int .i64 0) (.slice none 0 0) (.string ⟨#[]⟩) := hbk
      have k1 := k0.set0 (.int .i64 302)
      have k2 := k1.set1 (.slice A' ps.length cap')
      have k3 := k2.set2 (.string ⟨#[]⟩)
      have c0 := k0.c0
      have f0 := k0.fr 0
      have c1 := k1.c1
      have f1 := k1.fr 1
      have c2 := k2.c2
      have f2 := k2.fr 2
      have q0 := k3.c0
      have q1 := k3.c1
      have q2 := k3.c2
      have hown := own_setCell (i := 2) (own_setCell (i := 1) (own_setCell (i := 0) hrow hs0 (.int .i64 302)) hs0 (.slice A' ps.length cap')) hs0 (.string ⟨#[]⟩)
      have hbb := ((hbw.setCell (p := ⟨w.heap.size, 0, none⟩) (Nat.le_refl _) (.int .i64 302)).setCell (p := ⟨w.heap.size, 1, none⟩) (Nat.le_refl _) (.slice A' ps.length cap')).setCell (p := ⟨w.heap.size, 2, none⟩) (Nat.le_refl _) (.string ⟨#[]⟩)
      clear k0 k1 k2 k3 hbk hl1
      go_wp2
      refine bodyPost_ret (v := .agg #[.int .i64 302, .slice A' ps.length cap', .string (S [])]) ?_ rfl ⟨_, rfl, HE.out ▸ own_mono hown (Nat.le_of_lt hs0), hbb⟩
      simp [results, Tryd.results24, go_sem, q0, q1, q2]
      rfl
end Go.Proofs.YtehgigfngelkjaaDoor
