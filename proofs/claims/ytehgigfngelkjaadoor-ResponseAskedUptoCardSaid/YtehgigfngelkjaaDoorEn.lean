/- What package response's guess answers, for any text of at most 2^30 bytes, where the variables of strconv that it reaches read as their texts lay them. -/
import Derived.Test.YtehgigfngelkjaaDoorEm
import Derived.Test.YtehgigfngelkjaaDoorEl
import Derived.Outline
namespace Go.Proofs.YtehgigfngelkjaaDoor
set_option maxRecDepth 8000
open Go.RowKit

namespace Rsp
theorem splitK_len (sep : Bytes) : ∀ (k : Nat) (l : Bytes), ∀ x ∈ Lib.splitK sep 0 k l, x.length ≤ l.length
  | 0, l, x, h => by
    have : x = l := by simpa [Lib.splitK] using h
    rw [this]; exact Nat.le_refl _
  | k + 1, l, x, h => by
    unfold Lib.splitK at h
    split at h
    · have : x = l := by simpa using h
      rw [this]; exact Nat.le_refl _
    · rcases List.mem_cons.1 h with rfl | h
      · exact List.length_take_le' _ _
      · have := splitK_len sep k _ x h
        rw [List.length_drop] at this
        omega
theorem splitK_count (sep : Bytes) : ∀ (k : Nat) (l : Bytes), 1 ≤ (Lib.splitK sep 0 k l).length
  | 0, l => by simp [Lib.splitK]
  | k + 1, l => by
    unfold Lib.splitK
    split
    · simp
    · simp
theorem lines_len (s : Bytes) : ∀ x ∈ lines s, x.length ≤ s.length := by
  intro x hx
  have h1 := splitK_len Req.crlf _ _ x hx
  have h2 := (cut_len s gap).1
  omega
theorem lines_pos (s : Bytes) : 1 ≤ (lines s).length := splitK_count Req.crlf _ _
theorem lines_few (s : Bytes) : (lines s).length ≤ s.length + 1 := by
  have h1 := split_len (S (Lib.cut s gap).1) (S Req.crlf) (by decide)
  rw [S_toList, S_toList] at h1
  have h2 := Lib.countB_le (S Req.crlf) (by decide) _ (S (Lib.cut s gap).1) (Nat.le_refl _)
  have h3 := (cut_len s gap).1
  have h4 : (S (Lib.cut s gap).1).size = (Lib.cut s gap).1.length := rfl
  show (Lib.split (Lib.cut s gap).1 Req.crlf).length ≤ _
  omega
theorem hdrOf_len (l : Bytes) : (hdrOf l).1.length ≤ l.length ∧ (hdrOf l).2.length ≤ l.length := cut_len l sep2
end Rsp

theorem grown_blk {w w1 : World} {g : Nat} {row : Option Nat} {x y z : Value} (h : BlkR w g x y z) (hg : w.grownBy w1 row) (hs : g < w.heap.size) (hr : ∀ k, row = some k → g + 1 ≤ k) : BlkR w1 g x y z :=
  ((Below.refl (g + 1) w).grown hg (by omega) hr |>.block g (by omega)).trans h

set_option maxHeartbeats 1600000 in
theorem guess_any (s : List UInt8) (w : World) (he : EnvE w) (hs : s.length ≤ 1073741824) :
    Calls Tryd.prog 41 #[.string (S s)] w fun e w' => ∃ v, e = .returned (rspV (Rsp.guessS s) v (Rsp.guessB s)) ∧ PRow w.heap.size w' v (Rsp.guessL s) ∧ Below w.heap.size w w' := by
  obtain ⟨i0, hi0, hz0, hz1, hz2⟩ := info_parts Tryd.infoPair
  have HLL := Lib.hid (Rsp.lines_len s)
  have hlp := Rsp.lines_pos s
  have hlf := Rsp.lines_few s
  have HS := Lib.hid (show Rsp.guessS s = Rsp.gs ((Rsp.lines s).headD []) from rfl)
  have HL := Lib.hid (show Rsp.guessL s = (((Rsp.lines s).drop 1).take ((Rsp.lines s).length - 2)).map Rsp.hdrOf from rfl)
  have hSp : ∀ w' : World, EnvC w' → Calls Tryd.prog 50 #[.string (S (Lib.cut s Rsp.gap).1), .string ⟨#[13, 10]⟩] w' fun e w'' => e = .returned (.slice (some ⟨w'.heap.size, 0, none⟩) (Rsp.lines s).length (Rsp.lines s).length) ∧ SRow w'.heap.size w'' (.slice (some ⟨w'.heap.size, 0, none⟩) (Rsp.lines s).length (Rsp.lines s).length) (Rsp.lines s) ∧ Below w'.heap.size w' w'' :=
    fun w' h => split_to (Lib.cut s Rsp.gap).1 Req.crlf w' h (Nat.le_trans (cut_len s Rsp.gap).1 hs) (by decide)
  have HB := Lib.hid (show Rsp.guessB s = (Lib.cut s Rsp.gap).2.1 from rfl)
  generalize Rsp.lines s = ls at HLL hlp hlf HS HL hSp
  obtain ⟨hd, bd, f, hc⟩ : ∃ a b f, Lib.cut s Rsp.gap = (a, b, f) := ⟨_, _, _, rfl⟩
  have hC : ∀ w' : World, EnvC w' → Calls Tryd.prog 42 #[.string (S s), .string ⟨#[13, 10, 13, 10]⟩] w' fun e w'' => e = .returned (.tuple #[.string (S hd), .string (S bd), .bool f]) ∧ Below w'.heap.size w' w'' := fun w' h => cut_to s Rsp.gap hd bd f w' h hs hc
  rw [hc] at hSp HB
  clear hc
  have h0 : 0 < ls.length := by omega
  have hG := fun (w' : World) (h : EnvE w') => guessStatus_any ls[0] w' h (Nat.le_trans (HLL.out _ (List.getElem_mem h0)) hs)
  have hd0 : ls.headD [] = ls[0] := by
    cases ls with
    | nil => exact absurd h0 (by simp)
    | cons a r => rfl
  rw [hd0] at HS
  clear hd0
  obtain ⟨l0, hl0⟩ : ∃ x : Rsp.Bytes, x = ls[0] := ⟨_, rfl⟩
  rw [← hl0] at HS hG
  have HL0 := Lib.hid hl0
  clear hl0
  obtain ⟨st, hst⟩ : ∃ st, st = Rsp.gs l0 := ⟨_, rfl⟩
  rw [← hst] at HS hG
  clear hst
  have hll : ls.length ≤ 1073741825 := by omega
  unfold rspV
  go_enter Tryd.func41, Tryd.ntmps41
  go_upto_region 1 with fail
  have hb0 : Below w.heap.size w (w.alloc (.cells #[.int .i64 0, .slice none 0 0, .string ⟨#[]⟩] 24)) := (Below.refl _ _).alloc (Nat.le_refl _) _
  have B0 : BlkR (w.alloc (.cells #[.int .i64 0, .slice none 0 0, .string ⟨#[]⟩] 24)) w.heap.size (.int .i64 0) (.slice none 0 0) (.string ⟨#[]⟩) := heap_alloc_new w _
  have hs0 : w.heap.size < (w.alloc (.cells #[.int .i64 0, .slice none 0 0, .string ⟨#[]⟩] 24)).heap.size := by simp
  generalize (w.alloc (.cells #[.int .i64 0, .slice none 0 0, .string ⟨#[]⟩] 24)) = w0 at hb0 B0 hs0 ⊢
  have he0 := he.next hb0
  go_wp2_with fail
  refine (hC w0 he0.env).mono ?_
  rintro e w1 ⟨rfl, hb1⟩
  have he1 := he0.next hb1
  go_wp2_with fail
  refine (hSp w1 he1.env).mono ?_
  rintro e w2 ⟨rfl, hr2, hb2⟩
  have he2 := he1.next hb2
  have c2 : w2.cell? ⟨w1.heap.size, 0, none⟩ = some (.string (S l0)) := by
    have := World.ownsRow.cellAt hr2 0 (by omega)
    rw [this, HL0.out]
    simp [strsV, h0]
  have B2 : BlkR w2 w.heap.size (.int .i64 0) (.slice none 0 0) (.string ⟨#[]⟩) := ((hb1.trans (hb2.mono hb1.size)).block _ hs0).trans B0
  have hs2 : w.heap.size < w2.heap.size := Nat.lt_of_lt_of_le hs0 (Nat.le_trans hb1.size hb2.size)
  have hbw2 : Below w.heap.size w w2 := hb0.trans ((hb1.trans (hb2.mono hb1.size)).mono hb0.size)
  have ii0 : (0 : Int) < (ls.length : Int) := by omega
  clear hC hSp he0 he1 hb0 B0 hs0 hb2
  have hsw : w0.heap.size ≤ w1.heap.size := hb1.size
  clear hb1
  go_wp2_with fail
  refine (hG w2 he2).mono ?_
  rintro e w3 ⟨rfl, hb3⟩
  have B3 : BlkR w3 w.heap.size (.int .i64 0) (.slice none 0 0) (.string ⟨#[]⟩) := (hb3.block _ hs2).trans B2
  have hr3 := own_below hr2 hb3
  have hs3 : w.heap.size < w3.heap.size := Nat.lt_of_lt_of_le hs2 hb3.size
  have hbw3 : Below w.heap.size w w3 := hbw2.trans (hb3.mono hbw2.size)
  have he3 := he2.next hb3
  have hL3 : ∀ k (hk : k < ls.length), w1.heap.size < w3.heap.size ∧ w3.cell? ⟨w1.heap.size, k, none⟩ = some (.string (S ls[k])) := by
    intro k hk
    refine ⟨(World.ownsRow.lt hr3 w1.heap.size rfl).2, ?_⟩
    have := World.ownsRow.cellAt hr3 k (by omega)
    rw [this]
    simp [strsV, hk]
  clear HL0 hG he2 c2 B2 hs2 hbw2 hr2 hb3 hr3
  go_upto_region 4 with fail
  have B4 : BlkR (w3.alloc (.cells #[.int .i64 st, .slice none 0 0, .string (S bd)] 24)) w3.heap.size (.int .i64 st) (.slice none 0 0) (.string (S bd)) := heap_alloc_new w3 _
  have hb4 : Below w3.heap.size w3 (w3.alloc (.cells #[.int .i64 st, .slice none 0 0, .string (S bd)] 24)) := (Below.refl _ _).alloc (Nat.le_refl _) _
  have hs4 : w3.heap.size < (w3.alloc (.cells #[.int .i64 st, .slice none 0 0, .string (S bd)] 24)).heap.size := by simp
  generalize (w3.alloc (.cells #[.int .i64 st, .slice none 0 0, .string (S bd)] 24)) = w4 at B4 hb4 hs4 ⊢
  have HLEN := Lib.hid (show 1 ≤ ls.length ∧ ls.length ≤ 1073741825 from ⟨hlp, hll⟩)
  go_wp2
  clear hlf h0
  go_loopw [8] (fun i wr => ∃ (j : Nat) (A : Option Addr) (cap : Nat) (ps : List Pct.PairL), j ≤ ls.length - 2 ∧ i = .int .i64 ((j : Int) + 1) ∧ ps = ((ls.drop 1).take j).map Rsp.hdrOf ∧ BlkR wr w3.heap.size (.int .i64 st) (.slice A ps.length cap) (.string (S bd)) ∧ PRow (w3.heap.size + 1) wr (.slice A ps.length cap) ps ∧ Below w3.heap.size w3 wr ∧ w3.heap.size < wr.heap.size) (fun i _ => ls.length + 1 - (intOf i).toNat)
  case atStart => exact ⟨0, none, 0, [], Nat.zero_le _, rfl, rfl, B4, World.ownsRow_nil _ _ _ _, hb4, hs4⟩
  case round =>
    obtain ⟨j, A, cap, ps, hj, rfl, hps, hB, hrow, hb, hsz⟩ := hrel
    have hpl : ps.length ≤ 1073741825 := by
      rw [hps, List.length_map]
      have h2 : ((ls.drop 1).take j).length ≤ j := List.length_take_le _ _
      omega
    have HPS := Lib.hid hps
    clear hps B4 hb4 hs4
    have h63 : ps.length + 1 ≤ maxLen := by unfold maxLen; omega
    by_cases hlt : j + 1 < ls.length - 1
    · obtain ⟨hll3, cl⟩ := hL3 (j + 1) (by omega)
      have hln := HLL.out ls[j + 1] (List.getElem_mem (by omega))
      have HN := Lib.hid (show ((ls.drop 1).take (j + 1)).map Rsp.hdrOf = ps ++ [Rsp.hdrOf ls[j + 1]] by
        rw [List.take_succ_eq_append_getElem (by rw [List.length_drop]; omega), List.map_append, ← HPS.out, List.getElem_drop]
        simp [Nat.add_comm])
      obtain ⟨ln, hlne⟩ : ∃ ln, ln = ls[j + 1] := ⟨_, rfl⟩
      have hln2 : ln.length ≤ 1073741824 := by rw [hlne]; exact Nat.le_trans hln hs
      rw [← hlne] at HN cl
      clear hlne hln hL3
      obtain ⟨n, v, f2, hc⟩ : ∃ a b f, Lib.cut ln Rsp.sep2 = (a, b, f) := ⟨_, _, _, rfl⟩
      have HNV := Lib.hid (show Rsp.hdrOf ln = (n, v) by unfold Rsp.hdrOf; rw [hc])
      have hC : ∀ w' : World, EnvC w' → Calls Tryd.prog 42 #[.string (S ln), .string ⟨#[58, 32]⟩] w' fun e w'' => e = .returned (.tuple #[.string (S n), .string (S v), .bool f2]) ∧ Below w'.heap.size w' w'' := fun w' h => cut_to ln Rsp.sep2 n v f2 w' h hln2 hc
      rw [HNV.out] at HN
      clear hc HNV
      have cr : wr.cell? ⟨w1.heap.size, j + 1, none⟩ = some (.string (S ln)) := (hb.cell (p := ⟨w1.heap.size, j + 1, none⟩) hll3).trans cl
      clear cl
      have j0 : (0 : Int) ≤ (j : Int) + 1 := by omega
      have j1 : (j : Int) + 1 < (ls.length : Int) - 1 := by omega
      have j2 : (j : Int) + 1 < (ls.length : Int) := by omega
      have her : EnvC wr := (he3.next hb).env
      go_wp2_with fail
      refine (hC wr her).mono ?_
      rintro e w5 ⟨rfl, hb5⟩
      have hB5 : BlkR w5 w3.heap.size (.int .i64 st) (.slice A ps.length cap) (.string (S bd)) := (hb5.block _ hsz).trans hB
      have hrow5 := own_below hrow hb5
      have hbw5 : Below w3.heap.size w3 w5 := hb.trans (hb5.mono hb.size)
      have hs5 : w3.heap.size < w5.heap.size := Nat.lt_of_lt_of_le hsz hb5.size
      clear hB hrow hb hsz hb5 her cr hC he3
      have d0 := hB5.c1
      have hB6 := fun o => (show BlkR (w5.alloc o) w3.heap.size (.int .i64 st) (.slice A ps.length cap) (.string (S bd)) from (Below.heap_alloc w5 o w3.heap.size hs5).trans hB5)
      have hown6 := hrow5.alloc (.cells #[.string (S n), .string (S v)] 44)
      have hlt6 := fun k hk => (World.ownsRow.lt hrow5 k hk).1
      go_wp2_with (at_builtin; refine wpList_append_lies _ rfl (.tmp 43) (.tmp 47) _ rfl (w3.heap.size + 1) 44 i0 _ 2 32 Tryd.underlying22 hi0 hz0 hz1 hz2 rfl (by omega) _ ps.length (cells2 ps) rfl hown6 ⟨w5.heap.size, 0, none⟩ 1 1 [.string (S n), .string (S v)] rfl rfl (World.news_of_block (cs := #[.string (S n), .string (S v)]) (t := 44) (fr := (0, 0)) (heap_alloc_new w5 _)) (by simp [Value.oneCell']) (by omega) (by omega) (by omega) (by simp; omega) (w5.heap.size + 1) (by simp) ?_; intro gg cap2 w7 hown7 hgrow hat hlt1; have hB7 := grown_blk (hB6 _) hgrow (by simp; omega) hlt6; have e1 := hB7.c1; have f1 := hB7.fr 1)
      have hb7 : Below w3.heap.size w3 w7 := (hbw5.alloc hbw5.size _).grown hgrow (by simp; omega) (fun k hk => by have := hlt6 k hk; omega)
      go_roundw
      case rel => exact ⟨j + 1, some ⟨gg, 0, none⟩, cap2, ps ++ [(n, v)], by omega, by go_num, HN.out.symm, by simpa using hB7.set1 _, own_setCell (prow_snoc hown7) (by omega) _, hb7.setCell (p := ⟨w3.heap.size, 1, none⟩) (Nat.le_refl _) _, by have := World.ownsRow.lt hown7 gg rfl; simp; omega⟩
      case measure => have := HLEN.out; simp [intOf]; omega
    · have HE := Lib.hid (show ps = Rsp.guessL s by
        rw [HPS.out, HL.out, show j = ls.length - 2 by omega])
      have j0 : ¬ ((j : Int) + 1 < (ls.length : Int) - 1) := by omega
      have B5 : BlkR wr w.heap.size (.int .i64 0) (.slice none 0 0) (.string ⟨#[]⟩) := (hb.block _ hs3).trans B3
      have hbw : Below w.heap.size w wr := hbw3.trans (hb.mono (Nat.le_of_lt hs3))
      have z0 := hB.c0
      have z1 := hB.c1
      have z2 := hB.c2
      have k1 := B5.set0 (.int .i64 st)
      have k2 := k1.set1 (.slice A ps.length cap)
      have k3 := k2.set2 (.string (S bd))
      have c0 := B5.c0
      have f0 := B5.fr 0
      have c1 := k1.c1
      have f1 := k1.fr 1
      have c2 := k2.c2
      have f2 := k2.fr 2
      have q0 := k3.c0
      have q1 := k3.c1
      have q2 := k3.c2
      have hs3' : w.heap.size < w3.heap.size + 1 := by omega
      have hown := own_setCell (i := 2) (own_setCell (i := 1) (own_setCell (i := 0) hrow hs3' (.int .i64 st)) hs3' (.slice A ps.length cap)) hs3' (.string (S bd))
      have hbb := ((hbw.setCell (p := ⟨w.heap.size, 0, none⟩) (Nat.le_refl _) (.int .i64 st)).setCell (p := ⟨w.heap.size, 1, none⟩) (Nat.le_refl _) (.slice A ps.length cap)).setCell (p := ⟨w.heap.size, 2, none⟩) (Nat.le_refl _) (.string (S bd))
      clear B5 hB k1 k2 k3 hL3 he3 hlt
      go_wp2
      refine bodyPost_ret (v := .agg #[.int .i64 st, .slice A ps.length cap, .string (S bd)]) ?_ rfl ⟨.slice A ps.length cap, by rw [HS.out, HB.out], by rw [← HE.out]; exact own_mono hown (Nat.le_of_lt hs3'), hbb⟩
      simp [results, Tryd.results41, go_sem, q0, q1, q2]
end Go.Proofs.YtehgigfngelkjaaDoor
