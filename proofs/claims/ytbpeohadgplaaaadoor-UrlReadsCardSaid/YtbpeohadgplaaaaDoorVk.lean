/- What package url's Parse answers, for any text, where the variables that it reaches read as their texts lay them. -/
import Derived.Test.YtbpeohadgplaaaaDoorVj
namespace Go.Proofs.YtbpeohadgplaaaaDoor
set_option maxRecDepth 8000
open Go.RowKit

theorem isHost_to (l : List UInt8) (w : World) (hs : l.length ≤ 1073741824) :
    Calls Tryd.prog 39 #[.string (S l)] w fun e w' => e = .returned (.bool (hostOk l)) ∧ w' = w :=
  (isHost_any (S l) w hs).mono fun _ _ ⟨he, hw⟩ => ⟨he, hw.symm⟩
theorem ownPort_to (l : List UInt8) (w : World) :
    Calls Tryd.prog 41 #[.string (S l)] w fun e w' => e = .returned (.int .i64 (ownP l)) ∧ w' = w :=
  (ownPort_any l w).mono fun _ _ ⟨he, hw⟩ => ⟨he, hw.symm⟩
theorem way_to (l : List UInt8) (w : World) (hd : Digs w) (hs : l.length ≤ 1073741824) :
    Calls Tryd.prog 43 #[.string (S l)] w fun e w' => e = .returned (.tuple #[.string (S ((Url.part l).getD [])), .bool (Url.part l).isSome]) ∧ Below w.heap.size w w' :=
  inOneWay_any (S l) w hd hs
theorem small_to (l : List UInt8) (w : World) (hs : l.length ≤ 1073741824) :
    Calls Tryd.prog 44 #[.string (S l)] w fun e w' => e = .returned (.string (S (Url.small l))) ∧ Below w.heap.size w w' :=
  small_any (S l) w hs

/-- The state between two calls: the block of the answer, untouched. -/
structure At0 (w0 w : World) : Prop where
  env : Env w
  blk : BlkU w w0.heap.size zeroU
  below : Below w0.heap.size w0 w
theorem At0.next {w0 w w' : World} (h : At0 w0 w) (hb : Below w.heap.size w w') : At0 w0 w' :=
  ⟨h.env.next hb, h.blk.below hb (below_lt h.blk), below_next h.below hb⟩
theorem At0.start {w0 : World} (he : Env w0) : At0 w0 (w0.alloc (.cells (uCells zeroU) 24)) :=
  have hb := (Below.refl w0.heap.size w0).alloc (Nat.le_refl _) (.cells (uCells zeroU) 24)
  ⟨he.next hb, heap_alloc_new w0 _, hb⟩

theorem below_set {w w1 : World} (h : Below w.heap.size w w1) (i : Nat) (v : Value) : Below w.heap.size w (w1.setCell ⟨w.heap.size, i, none⟩ v) := h.setCell (p := ⟨w.heap.size, i, none⟩) (Nat.le_refl _) v
theorem below_set6 {w w1 : World} (h : Below w.heap.size w w1) (a b c d e f : Value) : Below w.heap.size w ((((((w1.setCell ⟨w.heap.size, 0, none⟩ a).setCell ⟨w.heap.size, 1, none⟩ b).setCell ⟨w.heap.size, 2, none⟩ c).setCell ⟨w.heap.size, 3, none⟩ d).setCell ⟨w.heap.size, 4, none⟩ e).setCell ⟨w.heap.size, 5, none⟩ f) :=
  below_set (below_set (below_set (below_set (below_set (below_set h 0 a) 1 b) 2 c) 3 d) 4 e) 5 f

set_option maxHeartbeats 4000000 in
theorem parse_any (l : List UInt8) (w : World) (he : Env w) :
    Calls Tryd.prog 11 #[.string (S l)] w (Told w (parseRes (Url.parse l))) := by
  have hz : (S l).size = l.length := rfl
  by_cases hlong : 2000 < l.length
  · have HR := Lib.hid (show Url.parse l = .error 2 by unfold Url.parse; rw [if_pos hlong])
    go_enter Tryd.func11, Tryd.ntmps11
    go_wp2
    exact bodyPost_ret (v := .tuple #[uV zeroU, .int .i64 2]) (by simp [results, Tryd.results11, go_sem, uV, uCells, zeroU, S]) rfl ⟨by rw [HR.out]; rfl, by repeat (first | exact (Below.refl _ _).alloc (Nat.le_refl _) _ | refine Below.setCell ?_ (Nat.le_refl _) _)⟩
  · have HL := Lib.hid hlong
    have hl2 : l.length ≤ 2000 := by omega
    have hs : l.length ≤ 1073741824 := by omega
    clear hlong
    have h0 := At0.start he
    go_enter Tryd.func11, Tryd.ntmps11
    go_wp2_with fail
    generalize hw0 : w.alloc (.cells #[.string ⟨#[]⟩, .string ⟨#[]⟩, .int .i64 0, .string ⟨#[]⟩, .string ⟨#[]⟩, .bool false] 24) = w0
    have h0' : At0 w w0 := by rw [← hw0]; exact h0
    clear hw0 h0 hz
    refine (cutScheme_any l w0 h0'.env hs).mono ?_
    cases hsc : Url.schemeOf l with
    | none =>
      rintro e w1 ⟨rfl, hb1⟩
      have h1 := h0'.next hb1
      have HR := Lib.hid (parse_scheme HL.out hsc)
      clear hb1 h0' hsc
      unfold schemeRes
      obtain ⟨c0, c1, c2, c3, c4, c5, f0, f1, f2, f3, f4, f5⟩ := h1.blk.zero
      have hbb := h1.below
      clear h1
      go_wp2
      exact bodyPost_ret (v := .tuple #[uV zeroU, .int .i64 12]) (by simp [results, Tryd.results11, go_sem, uV, uCells, zeroU, S, c0, c1, c2, c3, c4, c5]) rfl ⟨by rw [HR.out]; rfl, below_set6 hbb _ _ _ _ _ _⟩
    | some x =>
      obtain ⟨sc, r⟩ := x
      rintro e w1 ⟨rfl, hb1⟩
      have h1 := h0'.next hb1
      obtain ⟨hsc2, hrl⟩ := scheme_is hsc
      have HSC := Lib.hid hsc
      have HSC2 := Lib.hid hsc2
      clear hb1 h0' hsc hsc2
      unfold schemeRes
      have htl := Url.takeWhile_len Url.noDelim r
      have hdl := Url.dropWhile_len Url.noDelim r
      have HP13 := Lib.hid (parse_host HL.out HSC.out)
      have HP14 := Lib.hid (parse_port HL.out HSC.out)
      have HPT := Lib.hid (fun r2 n => parse_tail (r2 := r2) (n := n) HL.out HSC.out)
      go_wp2_with fail
      refine (cutDelim r w1 (by omega)).mono ?_
      rintro e w2 ⟨rfl, hb2⟩
      have h2 := h1.next hb2
      clear h1 hb2
      generalize r.takeWhile Url.noDelim = ho at htl HP13 HP14 HPT ⊢
      generalize r.dropWhile Url.noDelim = r1 at hdl HP14 HPT ⊢
      go_wp2_with fail
      refine (isHost_to ho w2 (by omega)).mono ?_
      rintro e w3 ⟨rfl, hw3⟩
      subst hw3
      cases hh : hostOk ho with
      | false =>
        have HR := Lib.hid (HP13.out hh)
        clear HP13 HP14 HPT
        obtain ⟨c0, c1, c2, c3, c4, c5, f0, f1, f2, f3, f4, f5⟩ := h2.blk.zero
        have hbb := h2.below
        clear h2
        go_wp2
        exact bodyPost_ret (v := .tuple #[uV zeroU, .int .i64 13]) (by simp [results, Tryd.results11, go_sem, uV, uCells, zeroU, S, c0, c1, c2, c3, c4, c5]) rfl ⟨by rw [HR.out]; rfl, below_set6 hbb _ _ _ _ _ _⟩
      | true =>
        go_wp2_with fail
        refine (cutPort_any r1 _ (by omega)).mono ?_
        cases hpp : portPart r1 with
        | none =>
          rintro e w4 ⟨rfl, hb4⟩
          have h4 := h2.next hb4
          have HR := Lib.hid (HP14.out hh hpp)
          clear HP13 HP14 HPT h2 hb4
          unfold portPRes
          obtain ⟨c0, c1, c2, c3, c4, c5, f0, f1, f2, f3, f4, f5⟩ := h4.blk.zero
          have hbb := h4.below
          clear h4
          go_wp2
          exact bodyPost_ret (v := .tuple #[uV zeroU, .int .i64 14]) (by simp [results, Tryd.results11, go_sem, uV, uCells, zeroU, S, c0, c1, c2, c3, c4, c5]) rfl ⟨by rw [HR.out]; rfl, below_set6 hbb _ _ _ _ _ _⟩
        | some x =>
          obtain ⟨n, r2⟩ := x
          rintro e w4 ⟨rfl, hb4⟩
          have h4 := h2.next hb4
          have HT := Lib.hid (HPT.out r2 n hh hpp)
          obtain ⟨hr2, hn⟩ := port_len hpp
          clear HP13 HP14 HPT h2 hb4 hpp hh
          unfold portPRes
          have hdo := dfl_own HSC2.out n
          obtain ⟨pn, hpn⟩ : ∃ pn, Url.dfl sc n = pn := ⟨_, rfl⟩
          rw [hpn] at HT hdo
          clear hpn
          go_wp2_with fail
          refine (ownPort_to sc w4).mono ?_
          rintro e w5 ⟨rfl, hw5⟩
          subst hw5
          generalize ownP sc = op at hdo ⊢
          have hS := S_list
          obtain ⟨x, hc⟩ : ∃ x, Pct.cutAt 63 r2 = x := ⟨_, rfl⟩
          have hcl := cut_len 63 r2
          rw [hc] at hcl
          obtain ⟨pa, qu, f⟩ := x
          obtain ⟨hcl1, hcl2⟩ := hcl
          simp only at hcl1 hcl2
          by_cases hop : (n : Int) = op
          · rw [if_pos hop] at hdo
            subst hdo
            have hop' : ((n : Int) == op) = true := beq_iff_eq.2 hop
            clear hop
            go_wp2_with fail
            refine (strCut_to r2 63 pa qu f _ (by omega) hc).mono ?_
            rintro e w6 ⟨rfl, hb6⟩
            have h6 := h4.next hb6
            have TP := Lib.hid (fun h => tail_path (sc := sc) (h := Url.small ho) (n := 0) hc h)
            have TQ := Lib.hid (fun p h h' => tail_query (p := p) (sc := sc) (h := Url.small ho) (n := 0) hc h h')
            have TO := Lib.hid (fun p q h h' => tail_ok (p := p) (q := q) (sc := sc) (h := Url.small ho) (n := 0) hc h h')
            clear hb6 h4 hc
            go_wp2_with fail
            refine (way_to pa w6 h6.env.digs (by omega)).mono ?_
            rintro e w7 ⟨rfl, hb7⟩
            have h7 := h6.next hb7
            clear hb7 h6
            cases hpa : Url.part pa with
            | none =>
              have HR := Lib.hid (HT.out.trans (TP.out hpa))
              clear TP TQ TO HT hpa
              simp only [Option.getD_none, Option.isSome_none]
              obtain ⟨c0, c1, c2, c3, c4, c5, f0, f1, f2, f3, f4, f5⟩ := h7.blk.zero
              have hbb := h7.below
              clear h7
              go_wp2
              exact bodyPost_ret (v := .tuple #[uV zeroU, .int .i64 15]) (by simp [results, Tryd.results11, go_sem, uV, uCells, zeroU, S, c0, c1, c2, c3, c4, c5]) rfl ⟨by rw [HR.out]; rfl, below_set6 hbb _ _ _ _ _ _⟩
            | some p =>
              have hpl := part_len hpa
              simp only [Option.getD_some, Option.isSome_some]
              go_wp2_with fail
              refine (way_to qu w7 h7.env.digs (by omega)).mono ?_
              rintro e w8 ⟨rfl, hb8⟩
              have h8 := h7.next hb8
              clear hb8 h7
              cases hqu : Url.part qu with
              | none =>
                have HR := Lib.hid (HT.out.trans (TQ.out p hpa hqu))
                clear TP TQ TO HT hpa hqu
                simp only [Option.getD_none, Option.isSome_none]
                obtain ⟨c0, c1, c2, c3, c4, c5, f0, f1, f2, f3, f4, f5⟩ := h8.blk.zero
                have hbb := h8.below
                clear h8
                go_wp2
                exact bodyPost_ret (v := .tuple #[uV zeroU, .int .i64 15]) (by simp [results, Tryd.results11, go_sem, uV, uCells, zeroU, S, c0, c1, c2, c3, c4, c5]) rfl ⟨by rw [HR.out]; rfl, below_set6 hbb _ _ _ _ _ _⟩
              | some q =>
                have HR0 := Lib.hid (HT.out.trans (TO.out p q hpa hqu))
                clear TP TQ TO HT hpa hqu
                simp only [Option.getD_some, Option.isSome_some]
                rw [path_slash] at HR0
                by_cases hpe : p = []
                · subst hpe
                  rw [if_pos rfl] at HR0
                  have HR := HR0
                  clear HR0
                  go_wp2_with fail
                  refine (small_to ho w8 (by omega)).mono ?_
                  rintro e w9 ⟨rfl, hb9⟩
                  have h9 := h8.next hb9
                  clear hb9 h8
                  go_wp2_with fail
                  refine (dots_any [47] w9 (by first | omega | decide)).mono ?_
                  rintro e w10 ⟨rfl, hb10⟩
                  have h10 := h9.next hb10
                  clear hb10 h9
                  obtain ⟨c0, c1, c2, c3, c4, c5, f0, f1, f2, f3, f4, f5⟩ := h10.blk.zero
                  have hbb := h10.below
                  clear h10
                  go_wp2
                  exact bodyPost_ret (v := .tuple #[uV ⟨sc, Url.small ho, 0, Url.dots [47], q, f⟩, .int .i64 0]) (by simp [results, Tryd.results11, go_sem, uV, uCells, c0, c1, c2, c3, c4, c5]) rfl ⟨by rw [HR.out]; rfl, below_set6 hbb _ _ _ _ _ _⟩
                · rw [if_neg hpe] at HR0
                  have HR := HR0
                  have hpe' : p.isEmpty = false := by
                    cases p with
                    | nil => exact absurd rfl hpe
                    | cons _ _ => rfl
                  clear HR0 hpe
                  go_wp2_with fail
                  refine (small_to ho w8 (by omega)).mono ?_
                  rintro e w9 ⟨rfl, hb9⟩
                  have h9 := h8.next hb9
                  clear hb9 h8
                  go_wp2_with fail
                  refine (dots_any p w9 (by first | omega | decide)).mono ?_
                  rintro e w10 ⟨rfl, hb10⟩
                  have h10 := h9.next hb10
                  clear hb10 h9
                  obtain ⟨c0, c1, c2, c3, c4, c5, f0, f1, f2, f3, f4, f5⟩ := h10.blk.zero
                  have hbb := h10.below
                  clear h10
                  go_wp2
                  exact bodyPost_ret (v := .tuple #[uV ⟨sc, Url.small ho, 0, Url.dots p, q, f⟩, .int .i64 0]) (by simp [results, Tryd.results11, go_sem, uV, uCells, c0, c1, c2, c3, c4, c5]) rfl ⟨by rw [HR.out]; rfl, below_set6 hbb _ _ _ _ _ _⟩
          · rw [if_neg hop] at hdo
            subst hdo
            have hop' : ((pn : Int) == op) = false := beq_eq_false_iff_ne.2 hop
            clear hop
            go_wp2_with fail
            refine (strCut_to r2 63 pa qu f _ (by omega) hc).mono ?_
            rintro e w6 ⟨rfl, hb6⟩
            have h6 := h4.next hb6
            have TP := Lib.hid (fun h => tail_path (sc := sc) (h := Url.small ho) (n := pn) hc h)
            have TQ := Lib.hid (fun p h h' => tail_query (p := p) (sc := sc) (h := Url.small ho) (n := pn) hc h h')
            have TO := Lib.hid (fun p q h h' => tail_ok (p := p) (q := q) (sc := sc) (h := Url.small ho) (n := pn) hc h h')
            clear hb6 h4 hc
            go_wp2_with fail
            refine (way_to pa w6 h6.env.digs (by omega)).mono ?_
            rintro e w7 ⟨rfl, hb7⟩
            have h7 := h6.next hb7
            clear hb7 h6
            cases hpa : Url.part pa with
            | none =>
              have HR := Lib.hid (HT.out.trans (TP.out hpa))
              clear TP TQ TO HT hpa
              simp only [Option.getD_none, Option.isSome_none]
              obtain ⟨c0, c1, c2, c3, c4, c5, f0, f1, f2, f3, f4, f5⟩ := h7.blk.zero
              have hbb := h7.below
              clear h7
              go_wp2
              exact bodyPost_ret (v := .tuple #[uV zeroU, .int .i64 15]) (by simp [results, Tryd.results11, go_sem, uV, uCells, zeroU, S, c0, c1, c2, c3, c4, c5]) rfl ⟨by rw [HR.out]; rfl, below_set6 hbb _ _ _ _ _ _⟩
            | some p =>
              have hpl := part_len hpa
              simp only [Option.getD_some, Option.isSome_some]
              go_wp2_with fail
              refine (way_to qu w7 h7.env.digs (by omega)).mono ?_
              rintro e w8 ⟨rfl, hb8⟩
              have h8 := h7.next hb8
              clear hb8 h7
              cases hqu : Url.part qu with
              | none =>
                have HR := Lib.hid (HT.out.trans (TQ.out p hpa hqu))
                clear TP TQ TO HT hpa hqu
                simp only [Option.getD_none, Option.isSome_none]
                obtain ⟨c0, c1, c2, c3, c4, c5, f0, f1, f2, f3, f4, f5⟩ := h8.blk.zero
                have hbb := h8.below
                clear h8
                go_wp2
                exact bodyPost_ret (v := .tuple #[uV zeroU, .int .i64 15]) (by simp [results, Tryd.results11, go_sem, uV, uCells, zeroU, S, c0, c1, c2, c3, c4, c5]) rfl ⟨by rw [HR.out]; rfl, below_set6 hbb _ _ _ _ _ _⟩
              | some q =>
                have HR0 := Lib.hid (HT.out.trans (TO.out p q hpa hqu))
                clear TP TQ TO HT hpa hqu
                simp only [Option.getD_some, Option.isSome_some]
                rw [path_slash] at HR0
                by_cases hpe : p = []
                · subst hpe
                  rw [if_pos rfl] at HR0
                  have HR := HR0
                  clear HR0
                  go_wp2_with fail
                  refine (small_to ho w8 (by omega)).mono ?_
                  rintro e w9 ⟨rfl, hb9⟩
                  have h9 := h8.next hb9
                  clear hb9 h8
                  go_wp2_with fail
                  refine (dots_any [47] w9 (by first | omega | decide)).mono ?_
                  rintro e w10 ⟨rfl, hb10⟩
                  have h10 := h9.next hb10
                  clear hb10 h9
                  obtain ⟨c0, c1, c2, c3, c4, c5, f0, f1, f2, f3, f4, f5⟩ := h10.blk.zero
                  have hbb := h10.below
                  clear h10
                  go_wp2
                  exact bodyPost_ret (v := .tuple #[uV ⟨sc, Url.small ho, pn, Url.dots [47], q, f⟩, .int .i64 0]) (by simp [results, Tryd.results11, go_sem, uV, uCells, c0, c1, c2, c3, c4, c5]) rfl ⟨by rw [HR.out]; rfl, below_set6 hbb _ _ _ _ _ _⟩
                · rw [if_neg hpe] at HR0
                  have HR := HR0
                  have hpe' : p.isEmpty = false := by
                    cases p with
                    | nil => exact absurd rfl hpe
                    | cons _ _ => rfl
                  clear HR0 hpe
                  go_wp2_with fail
                  refine (small_to ho w8 (by omega)).mono ?_
                  rintro e w9 ⟨rfl, hb9⟩
                  have h9 := h8.next hb9
                  clear hb9 h8
                  go_wp2_with fail
                  refine (dots_any p w9 (by first | omega | decide)).mono ?_
                  rintro e w10 ⟨rfl, hb10⟩
                  have h10 := h9.next hb10
                  clear hb10 h9
                  obtain ⟨c0, c1, c2, c3, c4, c5, f0, f1, f2, f3, f4, f5⟩ := h10.blk.zero
                  have hbb := h10.below
                  clear h10
                  go_wp2
                  exact bodyPost_ret (v := .tuple #[uV ⟨sc, Url.small ho, pn, Url.dots p, q, f⟩, .int .i64 0]) (by simp [results, Tryd.results11, go_sem, uV, uCells, c0, c1, c2, c3, c4, c5]) rfl ⟨by rw [HR.out]; rfl, below_set6 hbb _ _ _ _ _ _⟩
end Go.Proofs.YtbpeohadgplaaaaDoor
