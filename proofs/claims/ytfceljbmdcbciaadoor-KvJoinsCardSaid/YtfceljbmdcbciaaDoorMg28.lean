/- A head as package wal reads it, for any disk on which nothing is staged. The head that counts, as package wal finds it, for any disk on which nothing is staged. -/
import Derived.Test.YtfceljbmdcbciaaDoorMg27
import Derived.LoopN
namespace Go.Proofs.YtfceljbmdcbciaaDoor
set_option maxRecDepth 8000
open Go.RowKit

def hdV (o : Option Wl.Hd) : Value := match o with
  | none => .agg #[.int .i64 0, .int .i64 0, .int .i64 0]
  | some h => .agg #[.int .i64 (h.gen : Int), .int .i64 (h.area : Int), .int .i64 (h.used : Int)]
def ReadHPost (w : World) (o : Option Wl.Hd) (e : Ending) (w' : World) : Prop := e = .returned (.tuple #[hdV o, .bool o.isSome]) ∧ Below w.heap.size w w'
theorem drewN_below (w : World) (n : Nat) : Below w.heap.size w (w.drewN n) := ⟨rfl, rfl, rfl, Nat.le_refl _, fun _ _ => rfl⟩
theorem seen_nil {d : Dk.D} (h : d.st = []) (i : Nat) (b : List UInt8) : Dk.seen i b d.st = b := by rw [h]; rfl
theorem set3 {w : World} {r : Nat} {a b c : Value} {t : TypeId} (h : w.heap[r]? = some (.cells #[a, b, c] t (0, 0))) (x y z : Value) : (((w.setCell ⟨r, 0, none⟩ x).setCell ⟨r, 1, none⟩ y).setCell ⟨r, 2, none⟩ z).heap[r]? = some (.cells #[x, y, z] t (0, 0)) :=
  setP_heap (setP_heap (setP_heap h 0 x) 1 y) 2 z
theorem set3_below {w0 w : World} {r : Nat} (h : Below w0.heap.size w0 w) (hr : w0.heap.size ≤ r) (x y z : Value) : Below w0.heap.size w0 (((w.setCell ⟨r, 0, none⟩ x).setCell ⟨r, 1, none⟩ y).setCell ⟨r, 2, none⟩ z) :=
  ((h.setCell (p := ⟨r, 0, none⟩) hr x).setCell (p := ⟨r, 1, none⟩) hr y).setCell (p := ⟨r, 2, none⟩) hr z

set_option maxHeartbeats 3200000 in
theorem readH_any (w : World) (P : Nat) (d : Dk.D) (i : Nat) (hH : Hs w) (h : SD0 w P d) (hst : d.st = []) (h4 : 4 ≤ d.n) (hi : i < 2) :
    Calls Tryd.prog 74 #[.pointer (some ⟨P, 0, none⟩), .int .i64 (i : Int)] w (ReadHPost w (Wl.readH d.n i (Dk.blk d.kept i))) := by
  have hok := h.ok
  have HR := Lib.hid (fun (w' : World) (hb : Below w.heap.size w w') => read_sd (h.keep hb) (by rw [hst]; simp) i (by omega))
  rw [seen_nil hst] at HR
  have HAB := Lib.hid (fun (w' : World) (hb : Below w.heap.size w w') => areaBytes_any (h.keep hb) (by omega))
  obtain ⟨b, hb⟩ : ∃ b, b = Dk.blk d.kept i := ⟨_, rfl⟩
  have hbl : b.length = 32 := by rw [hb]; exact Dk.blk_len hok.kept (by omega)
  rw [← hb] at HR ⊢
  clear hb
  have hn512 := hok.n
  obtain ⟨n, hn⟩ : ∃ n, n = d.n := ⟨_, rfl⟩
  rw [← hn] at HAB hn512 h4 ⊢
  clear h hok hst hn
  have hl4 : (b.drop 4).length = 28 := by rw [List.length_drop]; omega
  have hl44 : ((b.drop 4).take 4).length = 4 := by rw [List.length_take]; omega
  obtain ⟨s, hs⟩ : ∃ s, s = Wl.num b := ⟨_, rfl⟩
  obtain ⟨v, hv⟩ : ∃ v, v = Wl.num (b.drop 4) := ⟨_, rfl⟩
  obtain ⟨c, hc⟩ : ∃ c, c = Cr.sum ((b.drop 4).take 4) := ⟨_, rfl⟩
  have hsl : s < 4294967296 := by rw [hs]; exact Wl.num_lt _
  have hvl : v < 4294967296 := by rw [hv]; exact Wl.num_lt _
  have hcl : c < 4294967296 := by rw [hc]; exact Cr.sum_lt _
  obtain ⟨ab, hab⟩ : ∃ ab, ab = Wl.areaBytes n := ⟨_, rfl⟩
  have habl : ab ≤ 8192 := by rw [hab]; exact Nat.le_of_lt (Wl.areaBytes_lt hn512)
  have HX : Hid (Wl.readH n i b = if s = c ∧ v / 16384 % 2 = i ∧ v % 8192 ≤ ab then some ⟨v / 16384, v / 8192 % 2, v % 8192⟩ else none) := Lib.hid (by
    subst hs hv hc hab
    unfold Wl.readH Wl.hdOf
    by_cases hr : Wl.num b = Cr.sum ((b.drop 4).take 4)
    · have hr' : Wl.right b := hr
      simp only [hr', hr, true_and]
    · have hr' : ¬ Wl.right b := hr
      simp only [hr', hr, false_and])
  rw [← hab] at HAB
  have hgo : ∀ (w2 : World) (g : Nat), Below w.heap.size w w2 → w2.heap[g]? = some (.cells (cB b) 119 (0, 0)) → ∀ k, Below w.heap.size w (w2.drewN k) ∧ Calls Tryd.prog 103 #[.slice (some ⟨g, 0, none⟩) 32 32] (w2.drewN k) (fun e w' => e = .returned (U s) ∧ ∃ m, w' = (w2.drewN k).drewN m) ∧ Calls Tryd.prog 103 #[.slice (some ⟨g, 4, none⟩) 28 28] (w2.drewN k) (fun e w' => e = .returned (U v) ∧ ∃ m, w' = (w2.drewN k).drewN m) ∧ Calls Tryd.prog 92 #[.slice (some ⟨g, 4, none⟩) 4 28] (w2.drewN k) (fun e w' => e = .returned (U c) ∧ w' = w2.drewN k) := by
    intro w2 g hb2 hg k
    have hg' : (w2.drewN k).heap[g]? = some (.cells (cB b) 119 (0, 0)) := hg
    have hcb : BCells (w2.drewN k) (w2.drewN k).heap.size (some ⟨g, 0, none⟩) b := cB_in hg'
    have h28 := sub_cells (a := 4) (m := 28) hcb
    have h4' := sub_cells (a := 4) (m := 4) hcb
    rw [List.take_of_length_le (by omega)] at h28
    rw [hs, hv, hc]
    have hbk : Below w.heap.size w (w2.drewN k) := hb2.trans ((drewN_below w2 k).mono hb2.size)
    refine ⟨hbk, number_any _ _ _ _ _ hbl (by omega) hcb.bc, number_any _ _ _ _ _ hl4 (by omega) h28.bc, ?_⟩
    exact (of_anyN _ _ 4 28 _ hl44 (hH.next hbk) (by omega) h4'.bc).mono (fun _ _ ⟨h1, h2⟩ => ⟨h1, h2.symm⟩)
  have HGO := Lib.hid hgo
  clear hgo hs hv hc hab hl4 hl44 hbl hH
  have hba : Below w.heap.size w (w.alloc (.cells #[.int .i64 0, .int .i64 0, .int .i64 0] 82)) := (Below.refl _ _).alloc (Nat.le_refl _) _
  have HRA := Lib.hid (HR.out _ hba)
  clear HR
  go_enter Tryd.func74, Tryd.ntmps74
  go_wp2_with fail
  refine HRA.out.mono ?_
  rintro _ w2 ⟨g, rfl, hgs, hg, hb2⟩
  have HB2 := Lib.hid (hba.trans (hb2.mono hba.size))
  have HG2 := Lib.hid hg
  have hz := hb2.size
  rw [World.size_alloc] at hgs
  have hres : w2.heap[w.heap.size]? = some (.cells #[.int .i64 0, .int .i64 0, .int .i64 0] 82 (0, 0)) := by rw [hb2.block _ (by simp)]; exact heap_alloc_new w _
  clear HRA hba hb2 hg
  have HG3 := HGO.out w2 g HB2.out HG2.out
  have HGa := Lib.hid (fun k => (HG3 k).2.1)
  have HGb := Lib.hid (fun k => (HG3 k).2.2.1)
  clear HG3
  go_wp2_with fail
  go_quiet (first | (go_at_call 103; with_reducible exact Calls.quiet_of (HGa.out _)) | (go_at_call 103; with_reducible exact Calls.quiet_of (HGb.out _)))
  have HB3 : Hid (Below w.heap.size w (w2.drewN nq) ∧ (w2.drewN nq).heap[g]? = some (.cells (cB b) 119 (0, 0))) := Lib.hid ⟨HB2.out.trans ((drewN_below w2 nq).mono HB2.out.size), HG2.out⟩
  have hres3 : (w2.drewN nq).heap[w.heap.size]? = some (.cells #[.int .i64 0, .int .i64 0, .int .i64 0] 82 (0, 0)) := hres
  have hz3 : w.heap.size < (w2.drewN nq).heap.size := (Array.getElem?_eq_some_iff.1 hres3).1
  generalize w2.drewN nq = w3 at HB3 hres3 hz3 ⊢
  clear HB2 HG2 hres HGa HGb hz hgs
  obtain ⟨g4, hg4⟩ : ∃ g4, g4 = w3.heap.size := ⟨_, rfl⟩
  obtain ⟨w4, hw4⟩ : ∃ w4, w4 = w3.alloc (.cells #[.int .i64 ((v : Int) / 16384), .int .i64 ((v : Int) / 8192 % 2), .int .i64 ((v : Int) % 8192)] 82) := ⟨_, rfl⟩
  have hb34 : Below w3.heap.size w3 w4 := by rw [hw4]; exact (Below.refl _ _).alloc (Nat.le_refl _) _
  have hres4 : w4.heap[w.heap.size]? = some (.cells #[.int .i64 0, .int .i64 0, .int .i64 0] 82 (0, 0)) := by rw [hb34.block _ hz3]; exact hres3
  have hh4 : w4.heap[g4]? = some (.cells #[.int .i64 ((v : Int) / 16384), .int .i64 ((v : Int) / 8192 % 2), .int .i64 ((v : Int) % 8192)] 82 (0, 0)) := by rw [hw4, hg4]; exact heap_alloc_new w3 _
  have HB4 : Hid (Below w.heap.size w w4 ∧ w4.heap[g]? = some (.cells (cB b) 119 (0, 0))) := Lib.hid ⟨HB3.out.1.trans (hb34.mono (by omega)), by rw [hb34.block _ (Array.getElem?_eq_some_iff.1 HB3.out.2).1]; exact HB3.out.2⟩
  have HGc := Lib.hid (fun k => (HGO.out w4 g HB4.out.1 HB4.out.2 k).2.2.2)
  have HGd := Lib.hid (fun k => (HAB.out (w4.drewN k) (HGO.out w4 g HB4.out.1 HB4.out.2 k).1).mono (R' := fun e w' => e = .returned (.int .i64 (ab : Int)) ∧ w' = w4.drewN k) (fun _ _ ⟨h1, h2⟩ => ⟨h1, h2.symm⟩))
  have HGe : Hid (∀ k, Calls Tryd.prog 98 #[.int .i64 ((v : Int) / 16384)] (w4.drewN k) fun e w' => e = .returned (.int .i64 ((v : Int) / 16384 % 2)) ∧ w' = w4.drewN k) := Lib.hid (fun k => (place_any (w4.drewN k) (v / 16384) (by omega)).mono (fun _ _ ⟨h1, h2⟩ => ⟨h1, h2.symm⟩))
  have ce0 : w4.cell? ⟨g4, 0, none⟩ = some (.int .i64 ((v : Int) / 16384)) := cell_of_row w4 g4 0 _ _ _ hh4
  have ce1 : w4.cell? ⟨g4, 1, none⟩ = some (.int .i64 ((v : Int) / 8192 % 2)) := cell_of_row w4 g4 1 _ _ _ hh4
  have ce2 : w4.cell? ⟨g4, 2, none⟩ = some (.int .i64 ((v : Int) % 8192)) := cell_of_row w4 g4 2 _ _ _ hh4
  clear HAB HGO HB3 hres3 hb34 hh4
  go_wp2_with fail
  rw [← hw4, ← hg4]
  clear hw4 hg4
  by_cases hr1 : s = c
  · have k1 : ((s : Int) != (c : Int)) = false := by simp; omega
    have HR1 := Lib.hid hr1
    clear hr1
    by_cases hr2 : v / 16384 % 2 = i
    · have k2 : ((v : Int) / 16384 % 2 != (i : Int)) = false := by simp; omega
      have HR2 := Lib.hid hr2
      clear hr2
      by_cases hr3 : v % 8192 ≤ ab
      · have k3 : ¬ (ab : Int) < (v : Int) % 8192 := by omega
        have k4 : decide ((ab : Int) < (v : Int) % 8192) = false := by simp; omega
        go_quiet (first | (go_at_call 92; with_reducible exact Calls.quiet_of_same (HGc.out _)) | (go_at_call 98; with_reducible exact Calls.quiet_of_same (HGe.out _)) | (go_at_call 72; with_reducible exact Calls.quiet_of_same (HGd.out _)))
        have HB5 : Hid (Below w.heap.size w (w4.drewN nq)) := Lib.hid (HB4.out.1.trans ((drewN_below w4 nq).mono HB4.out.1.size))
        have r0 : (w4.drewN nq).cell? ⟨w.heap.size, 0, none⟩ = some (.int .i64 0) := cell_of_row w4 w.heap.size 0 _ _ _ hres4
        have r1 : (w4.drewN nq).cell? ⟨w.heap.size, 1, none⟩ = some (.int .i64 0) := cell_of_row w4 w.heap.size 1 _ _ _ hres4
        have r2 : (w4.drewN nq).cell? ⟨w.heap.size, 2, none⟩ = some (.int .i64 0) := cell_of_row w4 w.heap.size 2 _ _ _ hres4
        have f0 : ∀ j, (w4.drewN nq).frozen? ⟨w.heap.size, j, none⟩ = false := fun j => frozen_of_row w4 w.heap.size j _ _ hres4
        have rk : (w4.drewN nq).heap[w.heap.size]? = some (.cells #[.int .i64 0, .int .i64 0, .int .i64 0] 82 (0, 0)) := hres4
        have q0 : (w4.drewN nq).cell? ⟨g4, 0, none⟩ = some (.int .i64 ((v : Int) / 16384)) := ce0
        have q1 : (w4.drewN nq).cell? ⟨g4, 1, none⟩ = some (.int .i64 ((v : Int) / 8192 % 2)) := ce1
        have q2 : (w4.drewN nq).cell? ⟨g4, 2, none⟩ = some (.int .i64 ((v : Int) % 8192)) := ce2
        generalize w4.drewN nq = w5 at HB5 r0 r1 r2 f0 rk q0 q1 q2 ⊢
        clear ce0 ce1 ce2 hres4
        go_wp2_with fail
        have hS := set3 rk (.int .i64 ((v : Int) / 16384)) (.int .i64 ((v : Int) / 8192 % 2)) (.int .i64 ((v : Int) % 8192))
        have hSB := set3_below HB5.out (Nat.le_refl _) (.int .i64 ((v : Int) / 16384)) (.int .i64 ((v : Int) / 8192 % 2)) (.int .i64 ((v : Int) % 8192))
        generalize ((w5.setCell ⟨w.heap.size, 0, none⟩ (.int .i64 ((v : Int) / 16384))).setCell ⟨w.heap.size, 1, none⟩ (.int .i64 ((v : Int) / 8192 % 2))).setCell ⟨w.heap.size, 2, none⟩ (.int .i64 ((v : Int) % 8192)) = w6 at hS hSB ⊢
        have z0 := cell_of_row w6 w.heap.size 0 _ _ _ hS
        have z1 := cell_of_row w6 w.heap.size 1 _ _ _ hS
        have z2 := cell_of_row w6 w.heap.size 2 _ _ _ hS
        refine bodyPost_ret (v := .tuple #[.agg #[.int .i64 ((v : Int) / 16384), .int .i64 ((v : Int) / 8192 % 2), .int .i64 ((v : Int) % 8192)], .bool true]) (by simp [results, Tryd.results74, go_sem, z0, z1, z2]) rfl ?_
        exact ⟨by rw [HX.out, if_pos ⟨HR1.out, HR2.out, hr3⟩]; rfl, hSB⟩
      · have k3 : (ab : Int) < (v : Int) % 8192 := by omega
        have k4 : decide ((ab : Int) < (v : Int) % 8192) = true := by simp; omega
        go_quiet (first | (go_at_call 92; with_reducible exact Calls.quiet_of_same (HGc.out _)) | (go_at_call 98; with_reducible exact Calls.quiet_of_same (HGe.out _)) | (go_at_call 72; with_reducible exact Calls.quiet_of_same (HGd.out _)))
        have HB5 : Hid (Below w.heap.size w (w4.drewN nq)) := Lib.hid (HB4.out.1.trans ((drewN_below w4 nq).mono HB4.out.1.size))
        have r0 : (w4.drewN nq).cell? ⟨w.heap.size, 0, none⟩ = some (.int .i64 0) := cell_of_row w4 w.heap.size 0 _ _ _ hres4
        have r1 : (w4.drewN nq).cell? ⟨w.heap.size, 1, none⟩ = some (.int .i64 0) := cell_of_row w4 w.heap.size 1 _ _ _ hres4
        have r2 : (w4.drewN nq).cell? ⟨w.heap.size, 2, none⟩ = some (.int .i64 0) := cell_of_row w4 w.heap.size 2 _ _ _ hres4
        have f0 : ∀ j, (w4.drewN nq).frozen? ⟨w.heap.size, j, none⟩ = false := fun j => frozen_of_row w4 w.heap.size j _ _ hres4
        have rk : (w4.drewN nq).heap[w.heap.size]? = some (.cells #[.int .i64 0, .int .i64 0, .int .i64 0] 82 (0, 0)) := hres4
        have q0 : (w4.drewN nq).cell? ⟨g4, 0, none⟩ = some (.int .i64 ((v : Int) / 16384)) := ce0
        have q1 : (w4.drewN nq).cell? ⟨g4, 1, none⟩ = some (.int .i64 ((v : Int) / 8192 % 2)) := ce1
        have q2 : (w4.drewN nq).cell? ⟨g4, 2, none⟩ = some (.int .i64 ((v : Int) % 8192)) := ce2
        generalize w4.drewN nq = w5 at HB5 r0 r1 r2 f0 rk q0 q1 q2 ⊢
        clear ce0 ce1 ce2 hres4
        go_wp2_with fail
        have hS := set3 rk (.int .i64 0) (.int .i64 0) (.int .i64 0)
        have hSB := set3_below HB5.out (Nat.le_refl _) (.int .i64 0) (.int .i64 0) (.int .i64 0)
        generalize ((w5.setCell ⟨w.heap.size, 0, none⟩ (.int .i64 0)).setCell ⟨w.heap.size, 1, none⟩ (.int .i64 0)).setCell ⟨w.heap.size, 2, none⟩ (.int .i64 0) = w6 at hS hSB ⊢
        have z0 := cell_of_row w6 w.heap.size 0 _ _ _ hS
        have z1 := cell_of_row w6 w.heap.size 1 _ _ _ hS
        have z2 := cell_of_row w6 w.heap.size 2 _ _ _ hS
        refine bodyPost_ret (v := .tuple #[.agg #[.int .i64 0, .int .i64 0, .int .i64 0], .bool false]) (by simp [results, Tryd.results74, go_sem, z0, z1, z2]) rfl ?_
        exact ⟨by rw [HX.out, if_neg (by first | (rintro ⟨x1, x2, x3⟩; omega) | (rintro ⟨x1, x2, x3⟩; have := HR1.out; omega))]; rfl, hSB⟩
    · have k2 : ((v : Int) / 16384 % 2 != (i : Int)) = true := by simp; omega
      go_quiet (first | (go_at_call 92; with_reducible exact Calls.quiet_of_same (HGc.out _)) | (go_at_call 98; with_reducible exact Calls.quiet_of_same (HGe.out _)) | (go_at_call 72; with_reducible exact Calls.quiet_of_same (HGd.out _)))
      have HB5 : Hid (Below w.heap.size w (w4.drewN nq)) := Lib.hid (HB4.out.1.trans ((drewN_below w4 nq).mono HB4.out.1.size))
      have r0 : (w4.drewN nq).cell? ⟨w.heap.size, 0, none⟩ = some (.int .i64 0) := cell_of_row w4 w.heap.size 0 _ _ _ hres4
      have r1 : (w4.drewN nq).cell? ⟨w.heap.size, 1, none⟩ = some (.int .i64 0) := cell_of_row w4 w.heap.size 1 _ _ _ hres4
      have r2 : (w4.drewN nq).cell? ⟨w.heap.size, 2, none⟩ = some (.int .i64 0) := cell_of_row w4 w.heap.size 2 _ _ _ hres4
      have f0 : ∀ j, (w4.drewN nq).frozen? ⟨w.heap.size, j, none⟩ = false := fun j => frozen_of_row w4 w.heap.size j _ _ hres4
      have rk : (w4.drewN nq).heap[w.heap.size]? = some (.cells #[.int .i64 0, .int .i64 0, .int .i64 0] 82 (0, 0)) := hres4
      have q0 : (w4.drewN nq).cell? ⟨g4, 0, none⟩ = some (.int .i64 ((v : Int) / 16384)) := ce0
      have q1 : (w4.drewN nq).cell? ⟨g4, 1, none⟩ = some (.int .i64 ((v : Int) / 8192 % 2)) := ce1
      have q2 : (w4.drewN nq).cell? ⟨g4, 2, none⟩ = some (.int .i64 ((v : Int) % 8192)) := ce2
      generalize w4.drewN nq = w5 at HB5 r0 r1 r2 f0 rk q0 q1 q2 ⊢
      clear ce0 ce1 ce2 hres4
      go_wp2_with fail
      have hS := set3 rk (.int .i64 0) (.int .i64 0) (.int .i64 0)
      have hSB := set3_below HB5.out (Nat.le_refl _) (.int .i64 0) (.int .i64 0) (.int .i64 0)
      generalize ((w5.setCell ⟨w.heap.size, 0, none⟩ (.int .i64 0)).setCell ⟨w.heap.size, 1, none⟩ (.int .i64 0)).setCell ⟨w.heap.size, 2, none⟩ (.int .i64 0) = w6 at hS hSB ⊢
      have z0 := cell_of_row w6 w.heap.size 0 _ _ _ hS
      have z1 := cell_of_row w6 w.heap.size 1 _ _ _ hS
      have z2 := cell_of_row w6 w.heap.size 2 _ _ _ hS
      refine bodyPost_ret (v := .tuple #[.agg #[.int .i64 0, .int .i64 0, .int .i64 0], .bool false]) (by simp [results, Tryd.results74, go_sem, z0, z1, z2]) rfl ?_
      exact ⟨by rw [HX.out, if_neg (by first | (rintro ⟨x1, x2, x3⟩; omega) | (rintro ⟨x1, x2, x3⟩; have := HR1.out; omega))]; rfl, hSB⟩
  · have k1 : ((s : Int) != (c : Int)) = true := by simp; omega
    go_quiet (first | (go_at_call 92; with_reducible exact Calls.quiet_of_same (HGc.out _)) | (go_at_call 98; with_reducible exact Calls.quiet_of_same (HGe.out _)) | (go_at_call 72; with_reducible exact Calls.quiet_of_same (HGd.out _)))
    have HB5 : Hid (Below w.heap.size w (w4.drewN nq)) := Lib.hid (HB4.out.1.trans ((drewN_below w4 nq).mono HB4.out.1.size))
    have r0 : (w4.drewN nq).cell? ⟨w.heap.size, 0, none⟩ = some (.int .i64 0) := cell_of_row w4 w.heap.size 0 _ _ _ hres4
    have r1 : (w4.drewN nq).cell? ⟨w.heap.size, 1, none⟩ = some (.int .i64 0) := cell_of_row w4 w.heap.size 1 _ _ _ hres4
    have r2 : (w4.drewN nq).cell? ⟨w.heap.size, 2, none⟩ = some (.int .i64 0) := cell_of_row w4 w.heap.size 2 _ _ _ hres4
    have f0 : ∀ j, (w4.drewN nq).frozen? ⟨w.heap.size, j, none⟩ = false := fun j => frozen_of_row w4 w.heap.size j _ _ hres4
    have rk : (w4.drewN nq).heap[w.heap.size]? = some (.cells #[.int .i64 0, .int .i64 0, .int .i64 0] 82 (0, 0)) := hres4
    have q0 : (w4.drewN nq).cell? ⟨g4, 0, none⟩ = some (.int .i64 ((v : Int) / 16384)) := ce0
    have q1 : (w4.drewN nq).cell? ⟨g4, 1, none⟩ = some (.int .i64 ((v : Int) / 8192 % 2)) := ce1
    have q2 : (w4.drewN nq).cell? ⟨g4, 2, none⟩ = some (.int .i64 ((v : Int) % 8192)) := ce2
    generalize w4.drewN nq = w5 at HB5 r0 r1 r2 f0 rk q0 q1 q2 ⊢
    clear ce0 ce1 ce2 hres4
    go_wp2_with fail
    have hS := set3 rk (.int .i64 0) (.int .i64 0) (.int .i64 0)
    have hSB := set3_below HB5.out (Nat.le_refl _) (.int .i64 0) (.int .i64 0) (.int .i64 0)
    generalize ((w5.setCell ⟨w.heap.size, 0, none⟩ (.int .i64 0)).setCell ⟨w.heap.size, 1, none⟩ (.int .i64 0)).setCell ⟨w.heap.size, 2, none⟩ (.int .i64 0) = w6 at hS hSB ⊢
    have z0 := cell_of_row w6 w.heap.size 0 _ _ _ hS
    have z1 := cell_of_row w6 w.heap.size 1 _ _ _ hS
    have z2 := cell_of_row w6 w.heap.size 2 _ _ _ hS
    refine bodyPost_ret (v := .tuple #[.agg #[.int .i64 0, .int .i64 0, .int .i64 0], .bool false]) (by simp [results, Tryd.results74, go_sem, z0, z1, z2]) rfl ?_
    exact ⟨by rw [HX.out, if_neg (by first | (rintro ⟨x1, x2, x3⟩; omega) | (rintro ⟨x1, x2, x3⟩; have := HR1.out; omega))]; rfl, hSB⟩
end Go.Proofs.YtfceljbmdcbciaaDoor
namespace Go.Proofs.YtfceljbmdcbciaaDoor
set_option maxRecDepth 8000
open Go.RowKit

def hd3 (h : Wl.Hd) : Value := .agg #[.int .i64 (h.gen : Int), .int .i64 (h.area : Int), .int .i64 (h.used : Int)]
def NewestPost (w : World) (h : Wl.Hd) (e : Ending) (w' : World) : Prop := e = .returned (hd3 h) ∧ Below w.heap.size w w'

def stepH (f : Wl.Hd) (o : Option Wl.Hd) : Wl.Hd := match o with
  | some h => if f.gen ≤ h.gen then h else f
  | none => f
def foldH (o0 o1 : Option Wl.Hd) : Nat → Wl.Hd
  | 0 => ⟨0, 0, 0⟩
  | 1 => stepH ⟨0, 0, 0⟩ o0
  | _ => stepH (stepH ⟨0, 0, 0⟩ o0) o1
theorem newest_fold (n : Nat) (kept : List UInt8) : Wl.newest n kept = foldH (Wl.readH n 0 (Dk.blk kept 0)) (Wl.readH n 1 (Dk.blk kept 1)) 2 := by
  unfold Wl.newest
  cases Wl.readH n 0 (Dk.blk kept 0) with
  | none =>
    cases Wl.readH n 1 (Dk.blk kept 1) with
    | none => rfl
    | some g =>
      have e : stepH ⟨0, 0, 0⟩ (some g) = g := by unfold stepH; exact if_pos (Nat.zero_le _)
      exact e.symm
  | some h =>
    have e : stepH ⟨0, 0, 0⟩ (some h) = h := by unfold stepH; exact if_pos (Nat.zero_le _)
    cases Wl.readH n 1 (Dk.blk kept 1) with
    | none => exact e.symm
    | some g =>
      show _ = stepH (stepH ⟨0, 0, 0⟩ (some h)) (some g)
      rw [e]
      rfl
theorem foldH_succ (o0 o1 : Option Wl.Hd) (k : Nat) (hk : k < 2) : foldH o0 o1 (k + 1) = stepH (foldH o0 o1 k) (if k = 0 then o0 else o1) := by
  have : k = 0 ∨ k = 1 := by omega
  rcases this with rfl | rfl <;> rfl
abbrev h3 (h : Wl.Hd) : Array Value := #[.int .i64 (h.gen : Int), .int .i64 (h.area : Int), .int .i64 (h.used : Int)]
theorem readH_lt {n i : Nat} {b : List UInt8} {h : Wl.Hd} (e : Wl.readH n i b = some h) : h.gen ≤ 262143 ∧ h.area ≤ 1 ∧ h.used ≤ Wl.areaBytes n := by
  unfold Wl.readH at e
  split at e
  · rename_i hc
    injection e with e
    subst e
    have := Wl.num_lt (b.drop 4)
    refine ⟨by unfold Wl.hdOf; dsimp only; omega, by unfold Wl.hdOf; dsimp only; omega, hc.2.2⟩
  · cases e
theorem foldH_lt {n : Nat} {o0 o1 : Option Wl.Hd} (h0 : ∀ h, o0 = some h → h.gen ≤ 262143 ∧ h.area ≤ 1 ∧ h.used ≤ Wl.areaBytes n) (h1 : ∀ h, o1 = some h → h.gen ≤ 262143 ∧ h.area ≤ 1 ∧ h.used ≤ Wl.areaBytes n) : ∀ k, k ≤ 2 → (foldH o0 o1 k).gen ≤ 262143 ∧ (foldH o0 o1 k).area ≤ 1 ∧ (foldH o0 o1 k).used ≤ Wl.areaBytes n
  | 0, _ => ⟨by simp [foldH], by simp [foldH], by simp [foldH]⟩
  | k + 1, hk => by
    have ih := foldH_lt h0 h1 k (by omega)
    rw [foldH_succ o0 o1 k (by omega)]
    unfold stepH
    cases ho : (if k = 0 then o0 else o1) with
    | none => exact ih
    | some h =>
      dsimp only
      have hh : h.gen ≤ 262143 ∧ h.area ≤ 1 ∧ h.used ≤ Wl.areaBytes n := by
        by_cases hk0 : k = 0
        · rw [if_pos hk0] at ho; exact h0 h ho
        · rw [if_neg hk0] at ho; exact h1 h ho
      split
      · exact hh
      · exact ih
theorem newest_lt (n : Nat) (kept : List UInt8) : (Wl.newest n kept).gen ≤ 262143 ∧ (Wl.newest n kept).area ≤ 1 ∧ (Wl.newest n kept).used ≤ Wl.areaBytes n := by
  rw [newest_fold]
  exact foldH_lt (fun h e => readH_lt e) (fun h e => readH_lt e) 2 (Nat.le_refl _)

set_option maxHeartbeats 3200000 in
theorem newest_any (w : World) (P : Nat) (d : Dk.D) (hH : Hs w) (h : SD0 w P d) (hst : d.st = []) (h4 : 4 ≤ d.n) :
    Calls Tryd.prog 43 #[.pointer (some ⟨P, 0, none⟩)] w (NewestPost w (Wl.newest d.n d.kept)) := by
  rw [newest_fold]
  obtain ⟨o0, ho0⟩ : ∃ o, o = Wl.readH d.n 0 (Dk.blk d.kept 0) := ⟨_, rfl⟩
  obtain ⟨o1, ho1⟩ : ∃ o, o = Wl.readH d.n 1 (Dk.blk d.kept 1) := ⟨_, rfl⟩
  rw [← ho0, ← ho1]
  have HR : Hid (∀ (k : Nat) (w' : World), k < 2 → Below w.heap.size w w' → Calls Tryd.prog 74 #[.pointer (some ⟨P, 0, none⟩), .int .i64 (k : Int)] w' (ReadHPost w' (if k = 0 then o0 else o1))) := Lib.hid (fun k w' hk hb => by
    have hr := readH_any w' P d k (hH.next hb) (h.keep hb) hst h4 hk
    have : k = 0 ∨ k = 1 := by omega
    rcases this with rfl | rfl
    · rw [ho0]; exact hr
    · rw [ho1]; exact hr)
  have HL := Lib.hid (foldH_lt (n := d.n) (o0 := o0) (o1 := o1) (fun h e => readH_lt (ho0.symm.trans e)) (fun h e => readH_lt (ho1.symm.trans e)))
  clear ho0 ho1 h hst h4 hH
  obtain ⟨w0, hw0⟩ : ∃ w0, w0 = (w.alloc (.cells #[.int .i64 0, .int .i64 0, .int .i64 0] 82)).alloc (.cells #[.int .i64 0, .int .i64 0, .int .i64 0] 82) := ⟨_, rfl⟩
  have hb0 : Below w.heap.size w w0 := by rw [hw0]; exact ((Below.refl _ _).alloc (Nat.le_refl _) _).alloc (by simp) _
  have hr0 : w0.heap[w.heap.size]? = some (.cells #[.int .i64 0, .int .i64 0, .int .i64 0] 82 (0, 0)) := by rw [hw0, Below.heap_alloc _ _ _ (by simp)]; exact heap_alloc_new w _
  have hf0 : w0.heap[w.heap.size + 1]? = some (.cells #[.int .i64 0, .int .i64 0, .int .i64 0] 82 (0, 0)) := by rw [hw0]; have := heap_alloc_new (w.alloc (.cells #[.int .i64 0, .int .i64 0, .int .i64 0] 82)) (.cells #[.int .i64 0, .int .i64 0, .int .i64 0] 82); rwa [World.size_alloc] at this
  have HW0 := Lib.hid (And.intro hb0 (And.intro hr0 hf0))
  obtain ⟨r, hr⟩ : ∃ r, r = w.heap.size := ⟨_, rfl⟩
  have HRE := Lib.hid hr
  obtain ⟨f, hf⟩ : ∃ f, f = w.heap.size + 1 := ⟨_, rfl⟩
  have HFE := Lib.hid hf
  clear hb0 hr0 hf0
  go_enter Tryd.func43, Tryd.ntmps43
  go_wp2_with fail
  rw [← hw0, ← hf, ← hr]
  clear hw0 hr hf
  go_loopw [7] (fun iv wr => ∃ k : Nat, k ≤ 2 ∧ iv = .int .i64 k ∧ wr.heap[r]? = some (.cells #[.int .i64 0, .int .i64 0, .int .i64 0] 82 (0, 0)) ∧ wr.heap[f]? = some (.cells (h3 (foldH o0 o1 k)) 82 (0, 0)) ∧ Below w.heap.size w wr) (fun iv _ => 2 - (intOf iv).toNat)
  case atStart => exact ⟨0, by omega, rfl, by rw [HRE.out]; exact HW0.out.2.1, by rw [HFE.out]; exact HW0.out.2.2, HW0.out.1⟩
  case round =>
    obtain ⟨k, hk, rfl, hr, hf, hb⟩ := hrel
    by_cases hlt : k < 2
    · have hkI : (k : Int) < 2 := by omega
      have HC := Lib.hid (HR.out k _ hlt hb)
      have HST := Lib.hid (foldH_succ o0 o1 k hlt)
      obtain ⟨F, hF⟩ : ∃ F, F = foldH o0 o1 k := ⟨_, rfl⟩
      rw [← hF] at hf HST
      clear hF
      obtain ⟨o, ho⟩ : ∃ o, o = (if k = 0 then o0 else o1) := ⟨_, rfl⟩
      rw [← ho] at HC HST
      clear ho
      have HB := Lib.hid hb
      have HRR := Lib.hid hr
      have HFF := Lib.hid hf
      clear hb hr hf
      go_wp2_with fail
      refine HC.out.mono ?_
      rintro _ w2 ⟨rfl, hb2⟩
      have HB2 := Lib.hid (HB.out.trans (hb2.mono HB.out.size))
      have hr2 := (hb2.block _ (Array.getElem?_eq_some_iff.1 HRR.out).1).trans HRR.out
      have hf2 := (hb2.block _ (Array.getElem?_eq_some_iff.1 HFF.out).1).trans HFF.out
      clear hb2 HC HRR HFF HB
      cases o with
      | none =>
        unfold hdV
        have hba : Below w2.heap.size w2 (w2.alloc (.cells #[.int .i64 0, .int .i64 0, .int .i64 0] 82)) := (Below.refl _ _).alloc (Nat.le_refl _) _
        have h1 := (hba.block _ (Array.getElem?_eq_some_iff.1 hr2).1).trans hr2
        have h2 := (hba.block _ (Array.getElem?_eq_some_iff.1 hf2).1).trans hf2
        have HEND := Lib.hid (And.intro h1 (And.intro h2 (HB2.out.trans (hba.mono HB2.out.size))))
        clear hba h1 h2 hr2 hf2
        go_wp2_with fail
        go_roundw
        case rel => exact ⟨k + 1, by omega, by go_num, HEND.out.1, by rw [HST.out]; exact HEND.out.2.1, HEND.out.2.2⟩
        case measure => simp [intOf]; omega
      | some x =>
        unfold hdV
        obtain ⟨x0, hx0⟩ : ∃ v, v = x.gen := ⟨_, rfl⟩
        obtain ⟨x1, hx1⟩ : ∃ v, v = x.area := ⟨_, rfl⟩
        obtain ⟨x2, hx2⟩ : ∃ v, v = x.used := ⟨_, rfl⟩
        obtain ⟨y0, hy0⟩ : ∃ v, v = F.gen := ⟨_, rfl⟩
        obtain ⟨y1, hy1⟩ : ∃ v, v = F.area := ⟨_, rfl⟩
        obtain ⟨y2, hy2⟩ : ∃ v, v = F.used := ⟨_, rfl⟩
        have HFE2 : Hid (h3 F = #[.int .i64 (y0 : Int), .int .i64 (y1 : Int), .int .i64 (y2 : Int)]) := Lib.hid (by rw [hy0, hy1, hy2])
        have HXE2 : Hid (h3 x = #[.int .i64 (x0 : Int), .int .i64 (x1 : Int), .int .i64 (x2 : Int)]) := Lib.hid (by rw [hx0, hx1, hx2])
        have HST2 : Hid (stepH F (some x) = if y0 ≤ x0 then x else F) := Lib.hid (by rw [hy0, hx0]; rfl)
        dsimp only
        rw [HFE2.out] at hf2
        rw [← hx0, ← hx1, ← hx2]
        clear hx0 hx1 hx2 hy0 hy1 hy2
        have hba : Below w2.heap.size w2 (w2.alloc (.cells #[.int .i64 (x0 : Int), .int .i64 (x1 : Int), .int .i64 (x2 : Int)] 82)) := (Below.refl _ _).alloc (Nat.le_refl _) _
        have h1 := (hba.block _ (Array.getElem?_eq_some_iff.1 hr2).1).trans hr2
        have h2 := (hba.block _ (Array.getElem?_eq_some_iff.1 hf2).1).trans hf2
        have HB3 := Lib.hid (HB2.out.trans (hba.mono HB2.out.size))
        have b0 : (w2.alloc (.cells #[.int .i64 (x0 : Int), .int .i64 (x1 : Int), .int .i64 (x2 : Int)] 82)).cell? ⟨f, 0, none⟩ = some (.int .i64 (y0 : Int)) := cell_of_row _ f 0 _ _ _ h2
        have b1 : (w2.alloc (.cells #[.int .i64 (x0 : Int), .int .i64 (x1 : Int), .int .i64 (x2 : Int)] 82)).cell? ⟨f, 1, none⟩ = some (.int .i64 (y1 : Int)) := cell_of_row _ f 1 _ _ _ h2
        have b2 : (w2.alloc (.cells #[.int .i64 (x0 : Int), .int .i64 (x1 : Int), .int .i64 (x2 : Int)] 82)).cell? ⟨f, 2, none⟩ = some (.int .i64 (y2 : Int)) := cell_of_row _ f 2 _ _ _ h2
        have bf : ∀ j, (w2.alloc (.cells #[.int .i64 (x0 : Int), .int .i64 (x1 : Int), .int .i64 (x2 : Int)] 82)).frozen? ⟨f, j, none⟩ = false := fun j => frozen_of_row _ f j _ _ h2
        have HR3 := Lib.hid (And.intro h1 h2)
        have HNE : Hid (f ≠ r) := Lib.hid (by have := HRE.out; have := HFE.out; omega)
        have HGE : Hid (w.heap.size ≤ f) := Lib.hid (by have := HFE.out; omega)
        clear hba h1 h2 hr2 hf2
        by_cases hle : y0 ≤ x0
        · have hleI : (y0 : Int) ≤ (x0 : Int) := by omega
          go_wp2_with fail
          have hS := set3 HR3.out.2 (.int .i64 (x0 : Int)) (.int .i64 (x1 : Int)) (.int .i64 (x2 : Int))
          have hSB := set3_below HB3.out HGE.out (.int .i64 (x0 : Int)) (.int .i64 (x1 : Int)) (.int .i64 (x2 : Int))
          have hSR : (((((w2.alloc (.cells #[.int .i64 (x0 : Int), .int .i64 (x1 : Int), .int .i64 (x2 : Int)] 82)).setCell ⟨f, 0, none⟩ (.int .i64 (x0 : Int))).setCell ⟨f, 1, none⟩ (.int .i64 (x1 : Int))).setCell ⟨f, 2, none⟩ (.int .i64 (x2 : Int)))).heap[r]? = some (.cells #[.int .i64 0, .int .i64 0, .int .i64 0] 82 (0, 0)) := by
            rw [setP_other _ f 2 _ r HNE.out.symm, setP_other _ f 1 _ r HNE.out.symm, setP_other _ f 0 _ r HNE.out.symm]
            exact HR3.out.1
          go_roundw
          case rel => exact ⟨k + 1, by omega, by go_num, hSR, by rw [HST.out, HST2.out, if_pos hle, HXE2.out]; exact hS, hSB⟩
          case measure => simp [intOf]; omega
        · have hleI : ¬ (y0 : Int) ≤ (x0 : Int) := by omega
          have hleD : decide ((y0 : Int) ≤ (x0 : Int)) = false := by simp; omega
          go_wp2_with fail
          go_roundw
          case rel => exact ⟨k + 1, by omega, by go_num, HR3.out.1, by rw [HST.out, HST2.out, if_neg hle, HFE2.out]; exact HR3.out.2, HB3.out⟩
          case measure => simp [intOf]; omega
    · have hkI : ¬ (k : Int) < 2 := by omega
      have hk2 : k = 2 := by omega
      subst hk2
      obtain ⟨F, hF⟩ : ∃ F, F = foldH o0 o1 2 := ⟨_, rfl⟩
      rw [← hF] at hf
      have HFQ := Lib.hid hF
      clear hF
      have b0 := cell_of_row wr f 0 _ _ _ hf
      have b1 := cell_of_row wr f 1 _ _ _ hf
      have b2 := cell_of_row wr f 2 _ _ _ hf
      have rf : ∀ j, wr.frozen? ⟨r, j, none⟩ = false := fun j => frozen_of_row wr r j _ _ hr
      have hS := set3 hr (.int .i64 (F.gen : Int)) (.int .i64 (F.area : Int)) (.int .i64 (F.used : Int))
      have hSB := set3_below hb (by have := HRE.out; omega : w.heap.size ≤ r) (.int .i64 (F.gen : Int)) (.int .i64 (F.area : Int)) (.int .i64 (F.used : Int))
      have r0 := cell_of_row wr r 0 _ _ _ hr
      have r1 := cell_of_row wr r 1 _ _ _ hr
      have r2 := cell_of_row wr r 2 _ _ _ hr
      have HS := Lib.hid (And.intro hS hSB)
      clear hS hSB hf hr hb
      go_wp2_with fail
      obtain ⟨hS, hSB⟩ := HS.out
      generalize ((wr.setCell ⟨r, 0, none⟩ (.int .i64 (F.gen : Int))).setCell ⟨r, 1, none⟩ (.int .i64 (F.area : Int))).setCell ⟨r, 2, none⟩ (.int .i64 (F.used : Int)) = w6 at hS hSB ⊢
      have z0 := cell_of_row w6 r 0 _ _ _ hS
      have z1 := cell_of_row w6 r 1 _ _ _ hS
      have z2 := cell_of_row w6 r 2 _ _ _ hS
      refine bodyPost_ret (v := .agg #[.int .i64 (F.gen : Int), .int .i64 (F.area : Int), .int .i64 (F.used : Int)]) (by simp [results, Tryd.results43, go_sem, z0, z1, z2]) rfl ?_
      exact ⟨by rw [← HFQ.out]; rfl, hSB⟩
end Go.Proofs.YtfceljbmdcbciaaDoor
