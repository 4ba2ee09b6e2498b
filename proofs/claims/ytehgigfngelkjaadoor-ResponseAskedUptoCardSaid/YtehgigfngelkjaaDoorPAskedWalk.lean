/- The statement ResponseAsked answers true, for any response with texts of at most 2^30 bytes, where the variables of the library that it reaches read as their texts lay them. -/
import Derived.Test.YtehgigfngelkjaaDoorQg
import Derived.Test.YtehgigfngelkjaaDoorPUnlikeWalk
import Derived.Test.YtehgigfngelkjaaDoorPBackWalk
import Derived.Test.YtehgigfngelkjaaDoorPWritesWalk
import Derived.Test.YtehgigfngelkjaaDoorRspRef
namespace Go.Proofs.YtehgigfngelkjaaDoor
set_option maxRecDepth 8000
open Go.RowKit

theorem write_line (s : Int) (l : List Pct.PairL) (b : List UInt8) : Rsp.write s l b = Rsp.firstLine s ++ ([13, 10] ++ (Rsp.hds (Rsp.all l b) ++ ([13, 10] ++ b))) := by
  unfold Rsp.write
  simp [Rsp.first, Rsp.firstLine]
theorem run_eq_pair (w : World) (x y : ByteArray) : (binOp .eql 44 (.agg #[.string x, .string y]) (.agg #[.string x, .string y])).run Tryd.prog w = .ok (.bool true) w := by
  rw [run_eql_struct, run_equalIn_struct w 9999 _ _ _ Tryd.fieldsPair Tryd.heldPair]
  simp [Program.fieldsOf, Tryd.underlying44, Op.eqFields, go_sem]

theorem keep6 {w6 w' : World} {a g ab o n : Nat} {v1 v2 v3 v4 v5 v6 : Value} (h : Below w6.heap.size w6 w') (ha : a < w6.heap.size) (hg : g < w6.heap.size) (hab : ab < w6.heap.size) (d1 : w6.cell? ⟨a, 1, none⟩ = some v1) (d2 : w6.cell? ⟨a, 2, none⟩ = some v2) (d3 : w6.cell? ⟨g, 2, none⟩ = some v3) (d4 : w6.cell? ⟨g, 3, none⟩ = some v4) (d5 : w6.cell? ⟨ab, o + n * 2, none⟩ = some v5) (d6 : w6.cell? ⟨ab, o + n * 2 + 1, none⟩ = some v6) :
    w'.cell? ⟨a, 1, none⟩ = some v1 ∧ w'.cell? ⟨a, 2, none⟩ = some v2 ∧ w'.cell? ⟨g, 2, none⟩ = some v3 ∧ w'.cell? ⟨g, 3, none⟩ = some v4 ∧ w'.cell? ⟨ab, o + n * 2, none⟩ = some v5 ∧ w'.cell? ⟨ab, o + n * 2 + 1, none⟩ = some v6 ∧ Below w6.heap.size w6 w' :=
  ⟨(h.cell (p := ⟨a, 1, none⟩) ha).trans d1, (h.cell (p := ⟨a, 2, none⟩) ha).trans d2, (h.cell (p := ⟨g, 2, none⟩) hg).trans d3, (h.cell (p := ⟨g, 3, none⟩) hg).trans d4, (h.cell (p := ⟨ab, o + n * 2, none⟩) hab).trans d5, (h.cell (p := ⟨ab, o + n * 2 + 1, none⟩) hab).trans d6, h⟩

set_option maxHeartbeats 1000000 in
theorem responseAsked_any (s : Int) (A : Option Addr) (cap : Nat) (l : List Pct.PairL) (b : List UInt8) (W : World) (he : EnvC W) (hs : (Lit.int .i64 s).wf = true) (hl : PCells W W.heap.size A l) (hcap : l.length ≤ cap) (hnil : A = none → cap = 0)
    (hq : ∀ k (h : k < l.length), l[k].1.length ≤ 1073741824 ∧ l[k].2.length ≤ 1073741824) (hm : l.length ≤ 1099511627776) :
    Calls Tryd.prog 8 #[rspV s (.slice A l.length cap) b] W (AwakePost W) := by
  have hbz : (S b).size = b.length := rfl
  unfold rspV
  go_enter Tryd.func8, Tryd.ntmps8
  go_upto_region 1 with fail
  have B0 : BlkR (W.alloc (.cells #[.int .i64 s, .slice A l.length cap, .string (S b)] 24)) W.heap.size (.int .i64 s) (.slice A l.length cap) (.string (S b)) := heap_alloc_new W _
  have hb0 : Below W.heap.size W (W.alloc (.cells #[.int .i64 s, .slice A l.length cap, .string (S b)] 24)) := (Below.refl _ _).alloc (Nat.le_refl _) _
  have hs0 : W.heap.size < (W.alloc (.cells #[.int .i64 s, .slice A l.length cap, .string (S b)] 24)).heap.size := by simp
  have hp0 := hl.next hb0
  generalize (W.alloc (.cells #[.int .i64 s, .slice A l.length cap, .string (S b)] 24)) = W0 at B0 hb0 hs0 hp0 ⊢
  have HR := Lib.hid (fun w' (h : Below W0.heap.size W0 w') => (show BlkR w' W.heap.size (.int .i64 s) (.slice A l.length cap) (.string (S b)) from (h.block _ hs0).trans B0))
  have HP := Lib.hid (fun w' (h : Below W0.heap.size W0 w') => hp0.next h)
  have HE := Lib.hid (show ∀ w', Below W0.heap.size W0 w' → EnvC w' from fun w' h => he.next (hb0.trans (h.mono (Nat.le_of_lt hs0))))
  have HEND := Lib.hid (show ∀ w', Below W0.heap.size W0 w' → AwakePost W (.returned (.bool true)) w' from fun w' h => ⟨rfl, hb0.trans (h.mono (Nat.le_of_lt hs0))⟩)
  have HWQ := Lib.hid (show ∀ w', Below W0.heap.size W0 w' → Wr w' (.slice A l.length cap) l from fun w' h => ⟨A, cap, rfl, hp0.next h, hcap, hnil⟩)
  have HS0 := Lib.hid hs0
  have HQ := Lib.hid hq
  clear B0 hb0 hp0 he hl hcap hnil hs0 hq
  go_wp2_with fail
  refine (awake_any W0 (HE.out _ (Below.refl _ _))).mono ?_
  rintro e w1 ⟨rfl, hb1⟩
  have r0 := (HR.out _ hb1).c0
  have r1 := (HR.out _ hb1).c1
  have r2 := (HR.out _ hb1).c2
  go_wp2_with fail
  refine (refFew_any s A cap l b w1 (HP.out _ hb1) (by omega)).mono ?_
  rintro e w2 ⟨rfl, hbx⟩
  have hb2 : Below W0.heap.size W0 w2 := hb1.trans (hbx.mono hb1.size)
  clear r0 r1 r2 hbx hb1
  obtain ⟨t, n, hres, hc⟩ := res_cases s l b
  have hW1 := write_to s _ l b w2 (HE.out _ hb2) hs (HWQ.out _ hb2) HQ.out
  rw [hres] at hW1
  clear hres
  have HC := Lib.hid hc
  clear hc
  have r0 := (HR.out _ hb2).c0
  have r1 := (HR.out _ hb2).c1
  have r2 := (HR.out _ hb2).c2
  go_wp2_with fail
  refine hW1.mono ?_
  rintro e w3 ⟨rfl, hbx⟩
  have hb3 : Below W0.heap.size W0 w3 := hb2.trans (hbx.mono hb2.size)
  clear r0 r1 r2 hbx hb2 hW1
  have r1 := (HR.out _ hb3).c1
  have r2 := (HR.out _ hb3).c2
  cases hfc : fewR l b with
  | false =>
    clear hfc
    go_wp2
    go_ret
    exact HEND.out _ hb3
  | true =>
    have HF := Lib.hid (fewR_is hfc)
    clear hfc
    by_cases hl20 : l.length ≤ 20
    · by_cases hb300 : b.length ≤ 300
      · by_cases hn : n = 0
        · subst hn
          have h1 : Rsp.right s l b = true ∧ t = Rsp.write s l b := by
            rcases HC.out with ⟨a, b, _⟩ | ⟨_, c⟩
            · exact ⟨a, b⟩
            · exact absurd c (by decide)
          have HRT := Lib.hid h1.1
          have ht := h1.2
          rw [write_line] at ht
          have hno : Rsp.no13 (Rsp.firstLine s) := by
            intro x hx
            have := List.all_eq_true.1 (Rsp.first_ok (Rsp.right_all h1.1).1).1 x hx
            simpa using this
          clear HC h1
          have hfl : (Rsp.firstLine s).length ≤ 200 := by
            obtain ⟨q0, q1, q2, q3, q4⟩ := right_parts HRT.out
            have := dec_len s (by omega)
            unfold Rsp.firstLine
            simp only [List.length_append, List.length_cons, List.length_nil]
            omega
          have hrl : (Rsp.hds (Rsp.all l b) ++ ([13, 10] ++ b)).length ≤ 20000 := by
            have hd5 : (Lib.decDigits b.length).length ≤ 100 := dec_len (b.length : Int) (by omega)
            have h3 := hds_len60 (Rsp.all l b) (by
              intro q hq
              unfold Rsp.all at hq
              rcases List.mem_append.1 hq with hq | hq
              · obtain ⟨k, hk, rfl⟩ := List.getElem_of_mem hq
                have := HF.out.1 k hk
                exact ⟨by omega, by omega⟩
              · rw [List.mem_singleton] at hq
                subst hq
                exact ⟨by show Rsp.lenName.length ≤ _; decide, hd5⟩)
            have h4 : (Rsp.all l b).length = l.length + 1 := by simp [Rsp.all]
            simp only [List.length_append, List.length_cons, List.length_nil]
            omega
          have HAP := Lib.hid (fun hN => Rsp.ask_parse (s := s) HRT.out hl20 (fun q hq => by obtain ⟨k, hk, rfl⟩ := List.getElem_of_mem hq; exact HF.out.1 k hk) hb300 hN)
          generalize Rsp.firstLine s = F at ht hno hfl
          generalize hrest : Rsp.hds (Rsp.all l b) ++ ([13, 10] ++ b) = rest at ht hrl HAP
          clear hrest
          have htl : t.length = F.length + 2 + rest.length := by rw [ht]; simp; omega
          have hline : Req.line t = some (F, rest) := by rw [ht]; exact Rsp.line_of hno rest
          have hdrop : t.drop (F.length + 2) = rest := by rw [ht, ← List.drop_drop, List.drop_left]; rfl
          have hL : Calls Tryd.prog 26 #[.string (S t), .int .i64 0] w3 fun e w'' => e = .returned (.tuple #[.string (S F), .int .i64 ((F.length : Int) + 2)]) ∧ w3 = w'' :=
            (refLine_any (S t) 0 w3 (Nat.zero_le _) (by show t.length ≤ _; omega)).mono fun e w'' ⟨h1, h2⟩ => ⟨by rw [h1, List.drop_zero, S_toList, hline]; unfold lineRes; simp, h2⟩
          have hx : (S t).extract (F.length + 2) t.length = S rest := by
            have := extract_rest (S t) (F.length + 2)
            rw [S_toList, hdrop] at this
            exact this
          have htz : (S t).size = t.length := rfl
          have HT := Lib.hid (And.intro ht (And.intro hline (And.intro hdrop hno)))
          have HTL := Lib.hid htl
          clear ht hline hdrop hno htl
          go_wp2_with fail
          refine hL.mono ?_
          rintro e w4 ⟨rfl, rfl⟩
          clear hL
          have hH := Rq.refHeader_any [] [] A cap l [] Req.te w3 (HP.out _ hb3) (by omega) (fun k h => (HQ.out k h).1)
          unfold Told at hH
          go_wp2_with fail
          refine hH.mono ?_
          rintro e w4 ⟨rfl, hbx⟩
          have hb4 : Below W0.heap.size W0 w4 := hb3.trans (hbx.mono hb3.size)
          clear hH hbx hb3 r1 r2
          have hp0 : 0 < (F.length : Int) + 2 := by omega
          by_cases hN : Req.hdrN Req.te l = 0
          · have HN := Lib.hid (HAP.out hN)
            have hN0 : ¬ 0 < (Req.hdrN Req.te l : Int) := by omega
            have hat : ((F.length : Int) + 2).toNat = F.length + 2 := by omega
            have a0 : (0 : Int) ≤ (F.length : Int) + 2 := by omega
            have a1 : (F.length : Int) + 2 ≤ (t.length : Int) := by have := HTL.out; omega
            have a2 := fun w' : World => (show (Op.stringOp .add ⟨#[80, 79, 83, 84, 32, 47, 32, 72, 84, 84, 80, 47, 49, 46, 49, 13, 10]⟩ (S rest)).run Tryd.prog w' = .ok (.string (S ([80, 79, 83, 84, 32, 47, 32, 72, 84, 84, 80, 47, 49, 46, 49, 13, 10] ++ rest))) w' from run_add_S w' [80, 79, 83, 84, 32, 47, 32, 72, 84, 84, 80, 47, 49, 46, 49, 13, 10] rest (by simp; omega))
            have hPr := Rq.reqParse_any ([80, 79, 83, 84, 32, 47, 32, 72, 84, 84, 80, 47, 49, 46, 49, 13, 10] ++ rest) w4 ⟨(HE.out _ hb4).big, (HE.out _ hb4).lt.1⟩
            rw [HN.out] at hPr
            generalize [80, 79, 83, 84, 32, 47, 32, 72, 84, 84, 80, 47, 49, 46, 49, 13, 10] ++ rest = z at a2 hPr
            have hal : (Rsp.all l b).length = l.length + 1 := by simp [Rsp.all]
            have hPr2 : Calls Tryd.prog 28 #[.string (S z)] w4 fun e w'' => ∃ A' cap', e = .returned (.tuple #[.agg #[.string (S Req.post), .string (S [47]), .slice A' (l.length + 1) cap', .string (S b)], .int .i64 0]) ∧ PCells w'' w''.heap.size A' (Rsp.all l b) ∧ Below w4.heap.size w4 w'' ∧ l.length + 1 ≤ cap' :=
              hPr.mono fun e w'' h => by
                obtain ⟨A', cap', h1, h2, h3, h4⟩ := h
                refine ⟨A', cap', ?_, h2, h3, by rw [← hal]; exact h4⟩
                rw [h1, ← hal]
                rfl
            clear hPr HAP HN hN
            go_wp2_with fail
            refine hPr2.mono ?_
            rintro e w5 ⟨A', cap', rfl, hpc, hbx, hcq⟩
            have hb5 : Below W0.heap.size W0 w5 := hb4.trans (hbx.mono hb4.size)
            obtain ⟨ab, off, rfl, hab, hcl⟩ := hpc (by rw [hal]; omega)
            obtain ⟨p0', p1'⟩ := hcl l.length (by rw [hal]; omega)
            have hel : (Rsp.all l b)[l.length]'(by rw [hal]; omega) = (Rsp.lenName, Lib.decDigits b.length) := by simp [Rsp.all]
            rw [hel] at p0' p1'
            clear hPr2 hbx hb4 a0 a1 a2 hat hx hpc hel
            go_upto_region 11 with fail
            have C6 : (w5.alloc (.cells #[.string (S Req.post), .string (S [47]), .slice (some ⟨ab, off, none⟩) (l.length + 1) cap', .string (S b)] 50)).heap[w5.heap.size]? = some (.cells #[.string (S Req.post), .string (S [47]), .slice (some ⟨ab, off, none⟩) (l.length + 1) cap', .string (S b)] 50 (0, 0)) := heap_alloc_new w5 _
            have hbx : Below w5.heap.size w5 (w5.alloc (.cells #[.string (S Req.post), .string (S [47]), .slice (some ⟨ab, off, none⟩) (l.length + 1) cap', .string (S b)] 50)) := (Below.refl _ _).alloc (Nat.le_refl _) _
            have hs6 : w5.heap.size < (w5.alloc (.cells #[.string (S Req.post), .string (S [47]), .slice (some ⟨ab, off, none⟩) (l.length + 1) cap', .string (S b)] 50)).heap.size := by simp
            generalize (w5.alloc (.cells #[.string (S Req.post), .string (S [47]), .slice (some ⟨ab, off, none⟩) (l.length + 1) cap', .string (S b)] 50)) = w6 at C6 hbx hs6 ⊢
            have hb6 : Below W0.heap.size W0 w6 := hb5.trans (hbx.mono hb5.size)
            have hpl : PCells w6 w6.heap.size (some ⟨ab, off, none⟩) l := fun _ => ⟨ab, off, rfl, Nat.lt_of_lt_of_le hab hbx.size, fun k hk => by
              obtain ⟨c0, c1⟩ := hcl k (by rw [hal]; omega)
              have he : (Rsp.all l b)[k]'(by rw [hal]; omega) = l[k] := by simp [Rsp.all, hk]
              rw [he] at c0 c1
              exact ⟨(hbx.cell (p := ⟨ab, off + k * 2, none⟩) hab).trans c0, (hbx.cell (p := ⟨ab, off + k * 2 + 1, none⟩) hab).trans c1⟩⟩
            have p0 : w6.cell? ⟨ab, off + l.length * 2, none⟩ = some (.string (S Rsp.lenName)) := (hbx.cell (p := ⟨ab, off + l.length * 2, none⟩) hab).trans p0'
            have p1 : w6.cell? ⟨ab, off + l.length * 2 + 1, none⟩ = some (.string (S (Lib.decDigits b.length))) := (hbx.cell (p := ⟨ab, off + l.length * 2 + 1, none⟩) hab).trans p1'
            have x2 : w6.cell? ⟨w5.heap.size, 2, none⟩ = some (.slice (some ⟨ab, off, none⟩) (l.length + 1) cap') := cell_of_row w6 w5.heap.size 2 _ _ _ C6
            have x3 : w6.cell? ⟨w5.heap.size, 3, none⟩ = some (.string (S b)) := cell_of_row w6 w5.heap.size 3 _ _ _ C6
            have r1 := (HR.out _ hb6).c1
            have r2 := (HR.out _ hb6).c2
            have habw : ab < w6.heap.size := Nat.lt_of_lt_of_le hab hbx.size
            have hsW : W.heap.size < w6.heap.size := Nat.lt_of_lt_of_le HS0.out hb6.size
            clear hcl p0' p1' hbx hb5 hal
            have k0 : (0 : Int) ≤ (l.length : Int) := by omega
            have k1 : (l.length : Int) < (l.length : Int) + 1 := by omega
            have k2 : (l.length : Int) ≤ (cap' : Int) := by omega
            have kb := beqS b
            have hD := fun w' : World => refDigits_any b.length w' (by omega)
            generalize Lib.decDigits b.length = D at hD p1
            have hgd := fun w' : World => run_eqGuard_agg (P := Tryd.prog) w' .eql 44 (.tmp 107) (.tmp 112) #[.string (S Rsp.lenName), .string (S D)] #[.string ⟨#[67, 111, 110, 116, 101, 110, 116, 45, 76, 101, 110, 103, 116, 104]⟩, .string (S D)] Tryd.guardPair
            have heq := fun w' : World => (show (binOp .eql 44 (.agg #[.string (S Rsp.lenName), .string (S D)]) (.agg #[.string ⟨#[67, 111, 110, 116, 101, 110, 116, 45, 76, 101, 110, 103, 116, 104]⟩, .string (S D)])).run Tryd.prog w' = .ok (.bool true) w' from run_eq_pair w' (S Rsp.lenName) (S D))
            go_wp2
            go_region_held3 (fun w' => w'.cell? ⟨W.heap.size, 1, none⟩ = some (.slice A l.length cap) ∧ w'.cell? ⟨W.heap.size, 2, none⟩ = some (.string (S b)) ∧ w'.cell? ⟨w5.heap.size, 2, none⟩ = some (.slice (some ⟨ab, off, none⟩) (l.length + 1) cap') ∧ w'.cell? ⟨w5.heap.size, 3, none⟩ = some (.string (S b)) ∧ w'.cell? ⟨ab, off + l.length * 2, none⟩ = some (.string (S Rsp.lenName)) ∧ w'.cell? ⟨ab, off + l.length * 2 + 1, none⟩ = some (.string (S D)) ∧ Below w6.heap.size w6 w')
              (first
                | exact keep6 hb8 hsW hs6 habw r1 r2 x2 x3 p0 p1
                | exact keep6 hb7 hsW hs6 habw r1 r2 x2 x3 p0 p1
                | exact keep6 (Below.drew (Below.refl _ _)) hsW hs6 habw r1 r2 x2 x3 p0 p1)
              (first
                | (go_at_call 25; refine (pairs_any (.slice (some ⟨ab, off, none⟩) l.length cap') (.slice A l.length cap) l l _ ⟨_, _, rfl, hpl.next (Below.drew (Below.refl _ _))⟩ ⟨_, _, rfl, (HP.out _ hb6).next (Below.drew (Below.refl _ _))⟩ hm).mono ?_; rintro e w7 ⟨rfl, hbx⟩; rw [show decide (l = l) = true from by simp]; have hb7 : Below w6.heap.size w6 w7 := (Below.drew (Below.refl w6.heap.size w6)).trans (below_of_drewN hbx))
                | (go_at_call 29; refine (hD _).mono ?_; rintro e w8 ⟨rfl, hbx⟩; have hb8 : Below w6.heap.size w6 w8 := hb7.trans (hbx.mono hb7.size)))
            have hbz : Below W0.heap.size W0 w8 := hb6.trans (hb8.mono hb6.size)
            go_wp2
            go_ret
            exact HEND.out _ hbz
          · have hN0 : 0 < (Req.hdrN Req.te l : Int) := by omega
            go_wp2
            go_ret
            exact HEND.out _ hb4
        · have hn' : (n != 0) = true := bne_iff_ne.2 hn
          go_wp2
          go_ret
          exact HEND.out _ hb3
      · have hb3' : ¬ (b.length : Int) ≤ 300 := by omega
        go_wp2
        go_ret
        exact HEND.out _ hb3
    · have hl3' : ¬ (l.length : Int) ≤ 20 := by omega
      go_wp2
      go_ret
      exact HEND.out _ hb3
end Go.Proofs.YtehgigfngelkjaaDoor
