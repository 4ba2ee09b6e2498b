/- The statement ResponseMakes answers true, for any kind, body, place and cookies, where the variables of the library that it reaches read as their texts lay them. -/
import Derived.Test.YtehgigfngelkjaaDoorEl
import Derived.Outline
namespace Go.Proofs.YtehgigfngelkjaaDoor
set_option maxRecDepth 8000
open Go.RowKit

theorem SRow.reads {base : Nat} {w : World} {v : Value} {ps : List (List UInt8)} (h : SRow base w v ps) : ∃ A cap, v = .slice A ps.length cap ∧ SCells w w.heap.size A ps := by
  by_cases hn : ps = []
  · subst hn
    rcases h.2 with ⟨hv, _⟩ | ⟨g, cap, cur, hv, _⟩
    · exact ⟨none, 0, hv, fun h => absurd h (by simp)⟩
    · exact ⟨_, cap, hv, fun h => absurd h (by simp)⟩
  · obtain ⟨g, cap, hv, hlt, hc⟩ := h.open hn
    refine ⟨some ⟨g, 0, none⟩, cap, hv, fun _ => ⟨g, 0, rfl, hlt, fun k hk => ?_⟩⟩
    rw [Nat.zero_add]
    exact hc k hk
theorem SCells.next {w w' : World} {A : Option Addr} {l : List (List UInt8)} (h : SCells w w.heap.size A l) (hb : Below w.heap.size w w') : SCells w' w'.heap.size A l := by
  intro hn
  obtain ⟨b, off, rfl, hlt, hc⟩ := h hn
  exact ⟨b, off, rfl, Nat.lt_of_lt_of_le hlt hb.size, fun k hk => (hb.cell (p := ⟨b, off + k, none⟩) hlt).trans (hc k hk)⟩
abbrev sC : List UInt8 := [115, 101, 116, 45, 99, 111, 111, 107, 105, 101]
abbrev sL : List UInt8 := [76, 79, 67, 65, 84, 73, 79, 78]
theorem get_set (t : List UInt8) (cs : List (List UInt8)) : Rsp.get sC (Rsp.foundL t cs) = cs := by
  have h1 : Req.alike locName sC = false := by decide +kernel
  have h2 : Req.alike setName sC = true := by decide +kernel
  unfold Rsp.get Rsp.foundL
  rw [List.filter_cons_of_neg (by simp [h1])]
  induction cs with
  | nil => rfl
  | cons c r ih =>
    rw [List.map_cons, List.filter_cons_of_pos (by simp [h2]), List.map_cons, ih]
theorem get_loc (t : List UInt8) (cs : List (List UInt8)) : Rsp.get sL (Rsp.foundL t cs) = [t] := by
  have h1 : Req.alike locName sL = true := by decide +kernel
  have h2 : Req.alike setName sL = false := by decide +kernel
  unfold Rsp.get Rsp.foundL
  rw [List.filter_cons_of_pos (by simp [h1])]
  have : (cs.map fun c => (setName, c)).filter (fun q => Req.alike q.1 sL) = [] := by
    induction cs with
    | nil => rfl
    | cons c r ih =>
      rw [List.map_cons, List.filter_cons_of_neg (by simp [h2]), ih]
  rw [this]
  rfl

set_option maxHeartbeats 800000 in
theorem makes_many (k b t : List UInt8) (A : Option Addr) (cap : Nat) (cs : List (List UInt8)) (W : World) (he : EnvC W) (hf : ¬ (k.length ≤ 60 ∧ b.length ≤ 60 ∧ t.length ≤ 60 ∧ cs.length ≤ 10)) :
    Calls Tryd.prog 7 #[.string (S k), .string (S b), .string (S t), .slice A cs.length cap] W (AwakePost W) := by
  have hkz : (S k).size = k.length := rfl
  have hbz : (S b).size = b.length := rfl
  have htz : (S t).size = t.length := rfl
  by_cases h1 : k.length ≤ 60
  · by_cases h2 : b.length ≤ 60
    · by_cases h3 : t.length ≤ 60
      · have h4 : ¬ cs.length ≤ 10 := fun h => hf ⟨h1, h2, h3, h⟩
        clear hf
        go_enter Tryd.func7, Tryd.ntmps7
        go_wp2_with fail
        refine (awake_any W he).mono ?_
        rintro e w1 ⟨rfl, hb1⟩
        go_wp2
        go_ret
        exact ⟨rfl, hb1⟩
      · clear hf
        go_enter Tryd.func7, Tryd.ntmps7
        go_wp2_with fail
        refine (awake_any W he).mono ?_
        rintro e w1 ⟨rfl, hb1⟩
        go_wp2
        go_ret
        exact ⟨rfl, hb1⟩
    · clear hf
      go_enter Tryd.func7, Tryd.ntmps7
      go_wp2_with fail
      refine (awake_any W he).mono ?_
      rintro e w1 ⟨rfl, hb1⟩
      go_wp2
      go_ret
      exact ⟨rfl, hb1⟩
  · clear hf
    go_enter Tryd.func7, Tryd.ntmps7
    go_wp2_with fail
    refine (awake_any W he).mono ?_
    rintro e w1 ⟨rfl, hb1⟩
    go_wp2
    go_ret
    exact ⟨rfl, hb1⟩

theorem getF_any (nm t : List UInt8) (A : Option Addr) (cap : Nat) (cs : List (List UInt8)) (w : World) (hl : PCells w w.heap.size A (Rsp.foundL t cs)) (h4 : cs.length ≤ 10) :
    Calls Tryd.prog 18 #[.agg #[.int .i64 302, .slice A (cs.length + 1) cap, .string (S [])], .string (S nm)] w fun e w' => ∃ v, e = .returned v ∧ SRow w.heap.size w' v (Rsp.get nm (Rsp.foundL t cs)) ∧ Below w.heap.size w w' := by
  have h := get_any 302 A cap (Rsp.foundL t cs) [] nm w hl (by rw [Rsp.foundL_len]; omega) (by
    intro k hk
    have hm : (Rsp.foundL t cs)[k] ∈ Rsp.foundL t cs := List.getElem_mem hk
    generalize (Rsp.foundL t cs)[k] = q at hm
    unfold Rsp.foundL at hm
    rcases List.mem_cons.1 hm with rfl | hm
    · show locName.length ≤ _; decide
    · obtain ⟨c, _, rfl⟩ := List.mem_map.1 hm
      show setName.length ≤ _; decide)
  rw [Rsp.foundL_len] at h
  exact h

set_option maxHeartbeats 1600000 in
theorem makes_few (k b t : List UInt8) (A : Option Addr) (cap : Nat) (cs : List (List UInt8)) (W : World) (he : EnvC W) (hl : SCells W W.heap.size A cs) (h1 : k.length ≤ 60) (h2 : b.length ≤ 60) (h3 : t.length ≤ 60) (h4 : cs.length ≤ 10) :
    Calls Tryd.prog 7 #[.string (S k), .string (S b), .string (S t), .slice A cs.length cap] W (AwakePost W) := by
  have hkz : (S k).size = k.length := rfl
  have hbz : (S b).size = b.length := rfl
  have htz : (S t).size = t.length := rfl
  go_enter Tryd.func7, Tryd.ntmps7
  go_wp2_with fail
  refine (awake_any W he).mono ?_
  rintro e w1 ⟨rfl, hb1⟩
  have hl1 := hl.next hb1
  go_wp2_with fail
  refine (page_any 400 k b w1).mono ?_
  rintro e w2 ⟨rfl, hbk2, hb2⟩
  have hs2 : w1.heap.size + 1 < w2.heap.size := by
    rcases Nat.lt_or_ge (w1.heap.size + 1) w2.heap.size with h | h
    · exact h
    · rw [Array.getElem?_eq_none h] at hbk2; cases hbk2
  have hbw2 : Below W.heap.size W w2 := hb1.trans (hb2.mono hb1.size)
  have hl2 := hl1.next hb2
  have hr2 : PRow 0 w2 (.slice (some ⟨w1.heap.size + 1, 0, none⟩) 1 1) [(kindName, k)] := ⟨rfl, .inr ⟨_, 1, _, rfl, Nat.zero_le _, hbk2, Nat.le_refl _, by unfold maxLen; omega, rfl, rfl⟩⟩
  clear hl hl1 hb1 hb2 hs2 hbk2
  unfold rspV
  go_upto_region 5 with fail
  have B3 : BlkR (w2.alloc (.cells #[.int .i64 400, .slice (some ⟨w1.heap.size + 1, 0, none⟩) 1 1, .string (S b)] 24)) w2.heap.size (.int .i64 400) (.slice (some ⟨w1.heap.size + 1, 0, none⟩) 1 1) (.string (S b)) := heap_alloc_new w2 _
  have hb3 : Below w2.heap.size w2 (w2.alloc (.cells #[.int .i64 400, .slice (some ⟨w1.heap.size + 1, 0, none⟩) 1 1, .string (S b)] 24)) := (Below.refl _ _).alloc (Nat.le_refl _) _
  have hs3 : w2.heap.size < (w2.alloc (.cells #[.int .i64 400, .slice (some ⟨w1.heap.size + 1, 0, none⟩) 1 1, .string (S b)] 24)).heap.size := by simp
  generalize (w2.alloc (.cells #[.int .i64 400, .slice (some ⟨w1.heap.size + 1, 0, none⟩) 1 1, .string (S b)] 24)) = w3 at B3 hb3 hs3 ⊢
  have hl3 := hl2.next hb3
  have hr3 := own_below hr2 hb3
  have hbw3 : Below W.heap.size W w3 := hbw2.trans (hb3.mono hbw2.size)
  clear hl2 hr2 hbw2 hb3
  generalize hp1 : (⟨w1.heap.size + 1, 0, none⟩ : Addr) = P1 at B3 hr3 ⊢
  clear hp1
  go_wp2_with fail
  refine (found_any t A cap cs w3 hl3 (by omega)).mono ?_
  rintro e w4 ⟨v4, rfl, hr4, hb4⟩
  unfold rspV
  obtain ⟨A4, cap4, rfl⟩ := hr4.form
  have hN := Rsp.foundL_len t cs
  rw [hN] at hr4 ⊢
  have B4 : BlkR w4 w2.heap.size (.int .i64 400) (.slice (some P1) 1 1) (.string (S b)) := (hb4.block _ hs3).trans B3
  have hl4 := hl3.next hb4
  have hq4 := own_below hr3 hb4
  have hs4 : w2.heap.size < w4.heap.size := Nat.lt_of_lt_of_le hs3 hb4.size
  have hbw4 : Below W.heap.size W w4 := hbw3.trans (hb4.mono hbw3.size)
  clear hl3 hr3 hbw3 hb4 B3 hs3
  go_upto_region 6 with fail
  have C5 : BlkR (w4.alloc (.cells #[.int .i64 302, .slice A4 (cs.length + 1) cap4, .string (S [])] 24)) w4.heap.size (.int .i64 302) (.slice A4 (cs.length + 1) cap4) (.string (S [])) := heap_alloc_new w4 _
  have hb5 : Below w4.heap.size w4 (w4.alloc (.cells #[.int .i64 302, .slice A4 (cs.length + 1) cap4, .string (S [])] 24)) := (Below.refl _ _).alloc (Nat.le_refl _) _
  have hs5 : w4.heap.size < (w4.alloc (.cells #[.int .i64 302, .slice A4 (cs.length + 1) cap4, .string (S [])] 24)).heap.size := by simp
  generalize (w4.alloc (.cells #[.int .i64 302, .slice A4 (cs.length + 1) cap4, .string (S [])] 24)) = w5 at C5 hb5 hs5 ⊢
  have B5 : BlkR w5 w2.heap.size (.int .i64 400) (.slice (some P1) 1 1) (.string (S b)) := (hb5.block _ hs4).trans B4
  have hl5 := hl4.next hb5
  have hq5 := own_below hq4 hb5
  have hr5 := own_below hr4 hb5
  have hbw5 : Below W.heap.size W w5 := hbw4.trans (hb5.mono hbw4.size)
  clear hl4 hq4 hr4 hbw4 hb5 B4 hs4
  have b0 := B5.c0
  have b1 := B5.c1
  have b2 := B5.c2
  have hPP : PReads w5 w5.heap.size (.slice (some P1) 1 1) [(kindName, k)] := PRow.reads hq5
  have hbb : ((S b).toList != (S b).toList) = false := by simp
  have hlit : PReads (w5.alloc (.cells #[.string ⟨#[67, 111, 110, 116, 101, 110, 116, 45, 84, 121, 112, 101]⟩, .string (S k)] 44)) (w5.alloc (.cells #[.string ⟨#[67, 111, 110, 116, 101, 110, 116, 45, 84, 121, 112, 101]⟩, .string (S k)] 44)).heap.size (.slice (some ⟨w5.heap.size, 0, none⟩) 1 1) [(kindName, k)] := (show PRow 0 _ (.slice (some ⟨w5.heap.size, 0, none⟩) 1 1) [(kindName, k)] from World.ownsRow_lit w5 #[.string (S kindName), .string (S k)] 1 (Nat.zero_le _) (by unfold maxLen; omega) rfl).reads
  go_wp2_with fail
  refine (pairs_any _ _ _ [(kindName, k)] _ ((hPP.below ((Below.refl _ _).alloc (Nat.le_refl _) _)).more (by simp)) hlit (by simp)).mono ?_
  rintro e w6 ⟨rfl, n6, rfl⟩
  rw [show decide ([(kindName, k)] = [(kindName, k)]) = true from by simp]
  have hb6 : Below w5.heap.size w5 ((w5.alloc (.cells #[.string ⟨#[67, 111, 110, 116, 101, 110, 116, 45, 84, 121, 112, 101]⟩, .string (S k)] 44)).drewN n6) := below_drewN ((Below.refl _ _).alloc (Nat.le_refl _) _) n6
  generalize ((w5.alloc (.cells #[.string ⟨#[67, 111, 110, 116, 101, 110, 116, 45, 84, 121, 112, 101]⟩, .string (S k)] 44)).drewN n6) = w6 at hb6 ⊢
  have C6 : BlkR w6 w4.heap.size (.int .i64 302) (.slice A4 (cs.length + 1) cap4) (.string (S [])) := (hb6.block _ hs5).trans C5
  have hl6 := hl5.next hb6
  have hr6 : PRow w3.heap.size w6 (.slice A4 (cs.length + 1) cap4) (Rsp.foundL t cs) := own_below hr5 hb6
  have hbw6 : Below W.heap.size W w6 := hbw5.trans (hb6.mono hbw5.size)
  have hs6 : w4.heap.size < w6.heap.size := Nat.lt_of_lt_of_le hs5 hb6.size
  obtain ⟨A4', cap4', hv4, hpc⟩ := hr6.reads
  injection hv4 with e4 e5 e6
  subst e4
  clear e5 e6
  obtain ⟨ab, off, rfl, hab, hcl⟩ := hpc (by rw [hN]; omega)
  clear hl5 hr5 hbw5 hb6 C5 hs5 b0 b1 b2 hPP hlit hbb hq5 B5 hr6
  have HCL := Lib.hid hcl
  have HN := Lib.hid hN
  have hpos : 0 < (Rsp.foundL t cs).length := by omega
  obtain ⟨x0, x1⟩ := hcl 0 hpos
  rw [show off + 0 * 2 = off by omega] at x0 x1
  rw [show (Rsp.foundL t cs)[0].1 = locName from rfl] at x0
  rw [show (Rsp.foundL t cs)[0].2 = t from rfl] at x1
  clear hcl hN hpos
  have c0 := C6.c0
  have c1 := C6.c1
  have c2 := C6.c2
  have i0 : (0 : Int) < (cs.length : Int) + 1 := by omega
  have hneq := fun w' : World => run_neq_eq w' (locName, t) (locName, t) rfl
  have hgd := fun w' : World => run_eqGuard_agg (P := Tryd.prog) w' .neq 44 (.tmp 78) (.tmp 80) #[.string (S locName), .string (S t)] #[.string (S locName), .string (S t)] Tryd.guardPair
  have hE0 : (S []).toList = [] := S_list []
  have hQL : (S locName).toList = [76, 111, 99, 97, 116, 105, 111, 110] := S_list locName
  go_wp2
  clear x0 x1 hneq hgd hQL
  have hQS : (S setName).toList = [83, 101, 116, 45, 67, 111, 111, 107, 105, 101] := S_list setName
  go_loopw [12] (fun i wr => ∃ j : Nat, j ≤ cs.length ∧ i = .int .i64 j ∧ Below w6.heap.size w6 wr) (fun i _ => cs.length - (intOf i).toNat)
  case atStart => exact ⟨0, Nat.zero_le _, rfl, Below.refl _ _⟩
  case round =>
    obtain ⟨j, hj, rfl, hb⟩ := hrel
    have C7 := (hb.block _ hs6).trans C6
    by_cases hlt : j < cs.length
    · have HLT := Lib.hid hlt
      obtain ⟨x0', x1'⟩ := HCL.out (j + 1) (by have := HN.out; omega)
      obtain ⟨v, hv⟩ : ∃ v, v = cs[j] := ⟨_, rfl⟩
      have hel : (Rsp.foundL t cs)[j + 1]'(by have := HN.out; omega) = (setName, v) := by
        rw [hv]
        simp [Rsp.foundL]
        rfl
      rw [hel] at x0' x1'
      obtain ⟨b', off', rfl, hbb', hc'⟩ := hl6 (by omega)
      have d0' : w6.cell? ⟨b', off' + j, none⟩ = some (.string (S v)) := by rw [hv]; exact hc' j hlt
      have x0 : wr.cell? ⟨ab, off + (j + 1) * 2, none⟩ = some (.string (S setName)) := (hb.cell (p := ⟨ab, off + (j + 1) * 2, none⟩) hab).trans x0'
      have x1 : wr.cell? ⟨ab, off + (j + 1) * 2 + 1, none⟩ = some (.string (S v)) := (hb.cell (p := ⟨ab, off + (j + 1) * 2 + 1, none⟩) hab).trans x1'
      have d0 : wr.cell? ⟨b', off' + j, none⟩ = some (.string (S v)) := (hb.cell (p := ⟨b', off' + j, none⟩) hbb').trans d0'
      clear hel hv x0' x1' d0' hc' hl6
      have n0 : (0 : Int) ≤ (j : Int) := by omega
      have n1 : (j : Int) < (cs.length : Int) := by omega
      have c1' := BlkR.c1 C7
      have hneq := fun w' : World => run_neq_eq w' (setName, v) (setName, v) rfl
      have hgd := fun w' : World => run_eqGuard_agg (P := Tryd.prog) w' .neq 44 (.tmp 94) (.tmp 99) #[.string (S setName), .string (S v)] #[.string (S setName), .string (S v)] Tryd.guardPair
      go_wp2
      go_quiet (fail)
      go_wp2
      go_roundw
      case rel => exact ⟨j + 1, by omega, by go_num, hb.trans (below_drewN (Below.refl _ _) _)⟩
      case measure => have := HLT.out; simp [intOf]; omega
    · have HJ := Lib.hid hj
      clear HJ
      have hpcr : PCells wr wr.heap.size (some ⟨ab, off, none⟩) (Rsp.foundL t cs) := PCells.next (w := w6) (fun _ => ⟨ab, off, rfl, hab, HCL.out⟩) hb
      have hlr := hl6.next hb
      have hbwr : Below W.heap.size W wr := hbw6.trans (hb.mono hbw6.size)
      have hsr : w4.heap.size < wr.heap.size := Nat.lt_of_lt_of_le hs6 hb.size
      clear hl6 hbw6 hs6 hb hpc
      have C8 : BlkR wr w4.heap.size (.int .i64 302) (.slice (some ⟨ab, off, none⟩) (cs.length + 1) cap4) (.string (S [])) := C7
      have c0 := C8.c0
      have c1 := C8.c1
      have c2 := C8.c2
      go_wp2_with fail
      refine (getF_any sC t _ cap4 cs wr hpcr h4).mono ?_
      rintro e w8 ⟨v8, rfl, hr8, hb8⟩
      rw [get_set] at hr8
      obtain ⟨A8, cap8, rfl, hc8⟩ := hr8.reads
      have hl8 := hlr.next hb8
      have hpc8 := PCells.next hpcr hb8
      have C9 := (hb8.block _ hsr).trans C8
      have hbw8 : Below W.heap.size W w8 := hbwr.trans (hb8.mono hbwr.size)
      have hs8 : w4.heap.size < w8.heap.size := Nat.lt_of_lt_of_le hsr hb8.size
      clear c0 c1 c2 hlr hpcr C8 hbwr hsr hb8 hr8
      go_wp2_with fail
      refine (texts_any A8 A cap8 cap cs cs w8 hc8 hl8 (by omega)).mono ?_
      rintro e w9 ⟨rfl, n9, rfl⟩
      rw [show decide (cs = cs) = true from by simp]
      have hb9 : Below w8.heap.size w8 (w8.drewN n9) := below_drewN (Below.refl _ _) n9
      generalize w8.drewN n9 = w9 at hb9 ⊢
      have hpc9 := PCells.next hpc8 hb9
      have C10 : BlkR w9 w4.heap.size (.int .i64 302) (.slice (some ⟨ab, off, none⟩) (cs.length + 1) cap4) (.string (S [])) := (hb9.block _ hs8).trans C9
      have hbw9 : Below W.heap.size W w9 := hbw8.trans (hb9.mono hbw8.size)
      clear hl8 hpc8 C9 hbw8 hs8 hb9 hc8
      have c0 := C10.c0
      have c1 := C10.c1
      have c2 := C10.c2
      go_wp2_with fail
      refine (getF_any sL t _ cap4 cs w9 hpc9 h4).mono ?_
      rintro e w10 ⟨v10, rfl, hr10, hb10⟩
      rw [get_loc] at hr10
      obtain ⟨A10, cap10, rfl, hc10⟩ := hr10.reads
      have hbw10 : Below W.heap.size W w10 := hbw9.trans (hb10.mono hbw9.size)
      clear c0 c1 c2 hpc9 C10 hbw9 hb10 hr10
      go_wp2_with fail
      refine (texts_any A10 (some ⟨w10.heap.size, 0, none⟩) cap10 1 [t] [t] _ (hc10.next ((Below.refl _ _).alloc (Nat.le_refl _) _)) (fun _ => ⟨w10.heap.size, 0, rfl, by simp, fun k hk => by
        obtain rfl : k = 0 := by simpa using hk
        exact cell_of_row _ w10.heap.size 0 _ _ _ (heap_alloc_new w10 _)⟩) (by simp)).mono ?_
      rintro e w11 ⟨rfl, n11, rfl⟩
      rw [show decide ([t] = [t]) = true from by simp]
      go_wp2
      go_ret
      exact ⟨rfl, below_drewN (hbw10.alloc hbw10.size _) n11⟩

theorem responseMakes_any (k0 b0 t0 : ByteArray) (A : Option Addr) (cap : Nat) (cs : List (List UInt8)) (W : World) (he : EnvC W) (hl : SCells W W.heap.size A cs) :
    Calls Tryd.prog 7 #[.string k0, .string b0, .string t0, .slice A cs.length cap] W (AwakePost W) := by
  obtain ⟨k, rfl⟩ : ∃ t, k0 = S t := ⟨k0.data.toList, rfl⟩
  obtain ⟨b, rfl⟩ : ∃ t, b0 = S t := ⟨b0.data.toList, rfl⟩
  obtain ⟨t, rfl⟩ : ∃ t, t0 = S t := ⟨t0.data.toList, rfl⟩
  by_cases h : k.length ≤ 60 ∧ b.length ≤ 60 ∧ t.length ≤ 60 ∧ cs.length ≤ 10
  · exact makes_few k b t A cap cs W he hl h.1 h.2.1 h.2.2.1 h.2.2.2
  · exact makes_many k b t A cap cs W he h
end Go.Proofs.YtehgigfngelkjaaDoor
