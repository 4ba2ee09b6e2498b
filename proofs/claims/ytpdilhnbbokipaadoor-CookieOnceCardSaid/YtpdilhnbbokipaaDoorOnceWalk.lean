/- The statement CookieOnce answers true, for any slice of cookies and any cookie, where the variables of the library that it reaches read as their texts lay them. -/
import Derived.Test.YtpdilhnbbokipaaDoorJarsWalk
import Derived.Test.YtpdilhnbbokipaaDoorCkOnce
import Derived.Deep.DeepCutAuto
namespace Go.Proofs.YtpdilhnbbokipaaDoor
set_option maxRecDepth 8000
open Go.RowKit

/-- What the statement keeps while cookies are put: c lies in block k of W0. -/
structure OInv (W0 : World) (b : Nat) (m : List Ck.C) (wr : World) : Prop where
  jar : JarAt wr b m
  few : m.length ≤ 20
  small : SmallAll m
  two : Ck.NoTwo m
  below : Below W0.heap.size W0 wr

theorem beq_no {a b c d : List UInt8} (h : ¬ (a = b ∧ c = d)) : ((S a).toList == (S b).toList) = false ∨ ((S a).toList == (S b).toList) = true ∧ ((S c).toList == (S d).toList) = false := by
  rw [beq_S, beq_S]
  by_cases h1 : a = b
  · have h2 : ¬ c = d := fun h2 => h ⟨h1, h2⟩
    exact .inr ⟨by simpa using h1, by simpa using h2⟩
  · exact .inl (by simpa using h1)
theorem run_eq_pair (w : World) (x y : List UInt8) : (binOp .eql 41 (.agg #[.string (S x), .string (S y)]) (.agg #[.string (S x), .string (S y)])).run Tryd.prog w = .ok (.bool true) w := by
  rw [run_eql_struct, run_equalIn_struct w 9999 _ _ _ Tryd.fieldsPair Tryd.heldPair]
  simp [Program.fieldsOf, Tryd.underlying41, go_sem]

set_option maxHeartbeats 8000000 in
theorem cookieOnce_any (A : Option Addr) (cap : Nat) (l : List Ck.C) (c : Ck.C) (W : World) (he : EnvC W) (hl : CCells W W.heap.size A l) (hm : l.length ≤ 9223372036854775807) :
    Calls Tryd.prog 8 #[.slice A l.length cap, cV c] W (AwakePost W) := by
  have HCC := Lib.hid hl
  clear hl
  have b0 := Blk6.new W c
  have hb0 : Below W.heap.size W (W.alloc (.cells #[.string (S c.name), .string (S c.val), .string (S c.path), .int .i64 c.age, .bool c.sec, .bool c.http] 32)) := (Below.refl _ _).alloc (Nat.le_refl _) _
  have hs0 : W.heap.size < (W.alloc (.cells #[.string (S c.name), .string (S c.val), .string (S c.path), .int .i64 c.age, .bool c.sec, .bool c.http] 32)).heap.size := by simp
  have he0 := he.next hb0
  go_enter Tryd.func8, Tryd.ntmps8
  go_upto_region 1 with fail
  generalize (W.alloc (.cells #[.string (S c.name), .string (S c.val), .string (S c.path), .int .i64 c.age, .bool c.sec, .bool c.http] 32)) = W0 at b0 hb0 hs0 he0 ⊢
  have HB0 := Lib.hid b0
  have HBW := Lib.hid hb0
  clear b0 hb0
  go_wp2_with fail
  refine (awake_any W0 he0).mono ?_
  rintro e w ⟨rfl, hb⟩
  have hbs := hb.size
  go_wp2_with fail
  refine (new_any w).mono ?_
  rintro e w1 ⟨rfl, hj1, hb1⟩
  have hW1 : Below W0.heap.size W0 w1 := hb.trans (hb1.mono hbs)
  have b1 := HB0.out.below hW1 hs0
  have d0 := b1.c0
  have d1 := b1.c1
  have d2 := b1.c2
  have d3 := b1.c3
  have d4 := b1.c4
  have d5 := b1.c5
  clear b1
  have hF := refFewC_any c w1
  go_wp2_with fail
  refine hF.mono ?_
  rintro e w2 ⟨rfl, hb2⟩
  have hj2 := hj1.below hb2
  have hW2 : Below W0.heap.size W0 w2 := hW1.trans (hb2.mono hW1.size)
  have HEND := Lib.hid (show ∀ w', Below W0.heap.size W0 w' → AwakePost W (.returned (.bool true)) w' from fun w' h => ⟨rfl, HBW.out.trans (h.mono (Nat.le_of_lt hs0))⟩)
  clear d0 d1 d2 d3 d4 d5 hF hj1 hb1 hb2 hb hW1
  by_cases h50 : l.length ≤ 50
  · have h50' : (l.length : Int) ≤ 50 := by omega
    cases hfc : fewC c with
    | false =>
      clear hfc
      go_wp2
      go_ret
      exact HEND.out _ hW2
    | true =>
      have HFC := Lib.hid (fewC_small hfc)
      clear hfc
      have HJ0 := Lib.hid (show OInv W0 w.heap.size [] w2 from ⟨hj2, by simp, (fun c hc => by cases hc), List.Pairwise.nil, hW2⟩)
      clear hj2 hW2
      go_wp2
      go_loopw [8] (fun i wr => ∃ (k : Nat) (m : List Ck.C), k ≤ l.length ∧ i = .int .i64 k ∧ OInv W0 w.heap.size m wr) (fun i _ => l.length - (intOf i).toNat)
      case atStart => exact ⟨0, [], Nat.zero_le _, rfl, HJ0.out⟩
      case round =>
        obtain ⟨k, m, hk, rfl, hinv⟩ := hrel
        obtain ⟨hjar, hm20, hsm, h2, hbw⟩ := hinv
        have HSM := Lib.hid hsm
        have H2 := Lib.hid h2
        clear hsm h2
        have hWs := hbw.size
        by_cases hlt : k < l.length
        · obtain ⟨g, off, rfl, hbb, h6⟩ := HCC.out.at6 k hlt
          obtain ⟨x, hx⟩ : ∃ x, x = l[k] := ⟨_, rfl⟩
          rw [← hx] at h6
          clear hx
          have hbb0 : g < W0.heap.size := by omega
          have H6 := Lib.hid (CCells.at_below h6 HBW.out hbb)
          clear h6
          have n0 : (0 : Int) ≤ (k : Int) := by omega
          have n1 : (k : Int) < (l.length : Int) := by omega
          obtain ⟨q0, q1, q2, q3, q4, q5⟩ := (CCells.at_below H6.out hbw hbb0).all
          have hF := refFewC_any x wr
          go_wp2_with fail
          refine hF.mono ?_
          rintro e w3 ⟨rfl, hb3⟩
          have hbw3 : Below W0.heap.size W0 w3 := hbw.trans (hb3.mono hWs)
          have hjar3 := hjar.below hb3
          clear q0 q1 q2 q3 q4 q5 hF hjar hb3
          cases hfew : fewC x with
          | false =>
            clear hfew
            go_wp2
            go_ret
            exact HEND.out _ hbw3
          | true =>
            have HX := Lib.hid (fewC_small hfew)
            clear hfew
            obtain ⟨q0, q1, q2, q3, q4, q5⟩ := (CCells.at_below H6.out hbw3 hbb0).all
            have hP := put_any w.heap.size m x w3 hjar3 HX.out hm20
            go_wp2_with fail
            refine hP.mono ?_
            rintro e w4 ⟨rfl, hjar4, hbut⟩
            have hbw4 : Below W0.heap.size W0 w4 := hbw3.trans (hbut.below hbs hbw3.size)
            have hinv4 : OInv W0 w.heap.size (Ck.put m x) w4 := ⟨hjar4, Ck.put_len hm20 x, small_put HSM.out HX.out, Ck.noTwo_put H2.out x, hbw4⟩
            clear q0 q1 q2 q3 q4 q5 hP hbut hjar4 hbw4
            go_wp2
            go_roundw
            case rel => exact ⟨k + 1, _, by omega, by go_num, hinv4⟩
            case measure => simp [intOf]; omega
        · have hA := all_any w.heap.size m wr hjar (by omega)
          go_wp2_with fail
          refine hA.mono ?_
          rintro e w3 ⟨v3, rfl, hrow3, hb3⟩
          obtain ⟨A3, cap3, rfl⟩ := hrow3.form
          have hjar3 := hjar.below hb3
          have hbw3 : Below W0.heap.size W0 w3 := hbw.trans (hb3.mono hWs)
          have bc3 := HB0.out.below hbw3 hs0
          have d0 := bc3.c0
          have d1 := bc3.c1
          have d2 := bc3.c2
          have d3 := bc3.c3
          have d4 := bc3.c4
          have d5 := bc3.c5
          have hP := put_any w.heap.size m c w3 hjar3 HFC.out hm20
          obtain ⟨o3, ho3⟩ := hjar3.blk
          clear bc3 hA hjar hb3
          go_wp2_with fail
          refine hP.mono ?_
          rintro e w4 ⟨rfl, hjar4, hbut⟩
          have hrow4 := own_but hrow3 hbut ho3 (by decide)
          have hbw4 : Below W0.heap.size W0 w4 := hbw3.trans (hbut.below hbs hbw3.size)
          have hws4 := hbw4.size
          clear d0 d1 d2 d3 d4 d5 hP ho3 hrow3 hjar3 hbut
          have H22 := Lib.hid (Ck.noTwo_put H2.out c)
          have HS2 := Lib.hid (small_put HSM.out HFC.out)
          have hl2 := Ck.put_len hm20 c
          have HPE := Lib.hid (show Ck.putE m c ≠ 0 → Ck.put m c = m from Ck.put_err)
          have HPZ := Lib.hid (show Ck.putE m c = 0 → c.age = 0 → Ck.put m c = Ck.rest m c from Ck.put_zero)
          have HPS := Lib.hid (show Ck.putE m c = 0 → c.age ≠ 0 → Ck.put m c = Ck.rest m c ++ [c] from Ck.put_some)
          generalize Ck.putE m c = en at HPE HPZ HPS ⊢
          generalize Ck.put m c = m2 at H22 HS2 hl2 HPE HPZ HPS hjar4
          have hA2 := all_any w.heap.size m2 w4 hjar4 (by omega)
          go_wp2_with fail
          refine hA2.mono ?_
          rintro e w5 ⟨v5, rfl, hrow5, hb5⟩
          obtain ⟨A5, cap5, rfl⟩ := hrow5.form
          have hbw5 : Below W0.heap.size W0 w5 := hbw4.trans (hb5.mono hws4)
          have HROW4 := Lib.hid (own_below hrow4 hb5)
          have HROW5 := Lib.hid hrow5
          have HJ5 := Lib.hid (hjar4.below hb5)
          have HC5 := Lib.hid (show CCells w5 w5.heap.size A5 m2 by
            obtain ⟨A9, cap9, hv9, hcc9⟩ := hrow5.reads
            injection hv9 with h1 h2 h3
            subst h1
            exact hcc9)
          have bc5 := HB0.out.below hbw5 hs0
          have d0 := bc5.c0
          have d1 := bc5.c1
          have d2 := bc5.c2
          have d3 := bc5.c3
          have d4 := bc5.c4
          have d5 := bc5.c5
          clear hA2 hjar4 hrow4 hrow5 hb5 bc5
          go_wp2
          go_loopw [13] (fun s wr => ∃ i n : Nat, i ≤ m2.length ∧ s = .int .i64 i ∧ wr = w5.drewN n) (fun s _ => m2.length - (intOf s).toNat)
          case atStart => exact ⟨0, 0, Nat.zero_le _, rfl, rfl⟩
          case round =>
            obtain ⟨i, n, hi, rfl, rfl⟩ := hrel
            by_cases hil : i < m2.length
            · have i0 : (0 : Int) ≤ (i : Int) := by omega
              have i1 : (i : Int) < (m2.length : Int) := by omega
              go_wp2
              go_loopw [14] (fun s wr => ∃ k n : Nat, k ≤ i ∧ s = .int .i64 k ∧ wr = w5.drewN n) (fun s _ => i - (intOf s).toNat)
              case atStart => exact ⟨0, n, Nat.zero_le _, rfl, rfl⟩
              case round =>
                obtain ⟨k2, n2, hk2, rfl, rfl⟩ := hrel
                by_cases hki : k2 < i
                · have hkl : k2 < m2.length := by omega
                  have hno := beq_no (Ck.noTwo_at H22.out hil hki)
                  obtain ⟨g, off, rfl, hbb, h6⟩ := HC5.out.at6 i hil
                  obtain ⟨g', off', hA5, hbb', h6'⟩ := HC5.out.at6 k2 hkl
                  injection hA5 with hA5
                  injection hA5 with h1 h2
                  subst h1 h2
                  have q0 := h6.c0
                  have q2 := h6.c2
                  have r0 := h6'.c0
                  have r2 := h6'.c2
                  clear h6 h6' hbb hbb'
                  generalize m2[i] = x at q0 q2 hno
                  generalize m2[k2] = y at r0 r2 hno
                  have k0 : (0 : Int) ≤ (k2 : Int) := by omega
                  have k1 : (k2 : Int) < (m2.length : Int) := by omega
                  rcases hno with hno | ⟨hno, hno2⟩
                  · go_wp2
                    go_quiet (fail)
                    go_wp2
                    go_roundw
                    case rel => exact ⟨k2 + 1, _, by omega, by go_num, rfl⟩
                    case measure => simp [intOf]; omega
                  · go_wp2
                    go_quiet (fail)
                    go_wp2
                    go_roundw
                    case rel => exact ⟨k2 + 1, _, by omega, by go_num, rfl⟩
                    case measure => simp [intOf]; omega
                · go_wp2
                  go_roundw
                  case rel => exact ⟨i + 1, n2, by omega, by go_num, rfl⟩
                  case measure => simp [intOf]; omega
            · have hD : Below w5.heap.size w5 (w5.drewN n) := below_drewN (Below.refl _ _) _
              have hbw6 : Below W0.heap.size W0 (w5.drewN n) := below_drewN hbw5 _
              by_cases hen : en = 0
              · have e1 : ((en : Int) != 0) = false := by rw [hen]; rfl
                by_cases hage : c.age = 0
                · have e2 : (c.age == 0) = true := by rw [hage]; rfl
                  have hm2 := HPZ.out hen hage
                  have HNO := Lib.hid (show ∀ j (hj : j < m2.length), ¬ (m2[j].name = c.name ∧ m2[j].path = c.path) from fun j hj => Ck.same_no (Ck.rest_not (by rw [← hm2]; exact List.getElem_mem hj)))
                  have hle : (m2.length : Int) ≤ (m.length : Int) := by
                    have := Ck.rest_len m c
                    rw [hm2]
                    omega
                  clear hen hage hm2
                  go_wp2
                  go_loopw [15] (fun s wr => ∃ k n : Nat, k ≤ m2.length ∧ s = .int .i64 k ∧ wr = w5.drewN n) (fun s _ => m2.length - (intOf s).toNat)
                  case atStart => exact ⟨0, n, Nat.zero_le _, rfl, rfl⟩
                  case round =>
                    obtain ⟨k2, n2, hk2, rfl, rfl⟩ := hrel
                    by_cases hkl : k2 < m2.length
                    · have hno := beq_no (HNO.out k2 hkl)
                      obtain ⟨g, off, rfl, hbb, h6⟩ := HC5.out.at6 k2 hkl
                      have q0 := h6.c0
                      have q2 := h6.c2
                      clear h6 hbb
                      generalize m2[k2] = x at q0 q2 hno
                      have k0 : (0 : Int) ≤ (k2 : Int) := by omega
                      have k1 : (k2 : Int) < (m2.length : Int) := by omega
                      rcases hno with hno | ⟨hno, hno2⟩
                      · go_wp2
                        go_quiet (fail)
                        go_wp2
                        go_roundw
                        case rel => exact ⟨k2 + 1, _, by omega, by go_num, rfl⟩
                        case measure => simp [intOf]; omega
                      · go_wp2
                        go_quiet (fail)
                        go_wp2
                        go_roundw
                        case rel => exact ⟨k2 + 1, _, by omega, by go_num, rfl⟩
                        case measure => simp [intOf]; omega
                    · go_wp2
                      go_ret
                      exact HEND.out _ (below_drewN hbw5 _)
                · have e2 : (c.age == 0) = false := beq_eq_false_iff_ne.2 hage
                  have hm2 := HPS.out hen hage
                  have hpos : 0 < m2.length := by rw [hm2]; simp
                  have HLAST := Lib.hid (show m2[m2.length - 1]'(by omega) = c by
                    have h9 : m2[m2.length - 1]? = some c := by rw [hm2]; simp
                    rw [List.getElem?_eq_getElem (by omega)] at h9
                    exact Option.some.inj h9)
                  have HZ := Lib.hid (show Ck.pairs m2 c.path true = Ck.pairs (Ck.rest m c) c.path true ++ [(c.name, c.val)] by rw [hm2]; exact Ck.sent_last _ _)
                  clear hen hage hm2
                  obtain ⟨g, off, rfl, hbb, h6⟩ := HC5.out.at6 (m2.length - 1) (by omega)
                  rw [HLAST.out] at h6
                  obtain ⟨q0, q1, q2, q3, q4, q5⟩ := h6.all
                  clear h6 hbb
                  have f0 : ((m2.length : Int) == 0) = false := beq_eq_false_iff_ne.2 (by omega)
                  have f1 : (0 : Int) ≤ (m2.length : Int) - 1 := by omega
                  have f2 : (m2.length : Int) - 1 < (m2.length : Int) := by omega
                  have f3 : ((m2.length : Int) - 1).toNat = m2.length - 1 := by omega
                  have f4 : IntKind.i64.wrap ((m2.length : Int) - 1) = (m2.length : Int) - 1 := IntWalk.i64_in _ (by omega)
                  have hneq := fun w' : World => run_ne_cookie w' c c
                  rw [cEq_self] at hneq
                  have hgd := fun w' : World => run_eqGuard_agg (P := Tryd.prog) w' .neq 32 (.tmp 151) (.tmp 152) #[.string (S c.name), .string (S c.val), .string (S c.path), .int .i64 c.age, .bool c.sec, .bool c.http] #[.string (S c.name), .string (S c.val), .string (S c.path), .int .i64 c.age, .bool c.sec, .bool c.http] Tryd.guardC
                  go_wp2
                  go_quiet (fail)
                  have hD2 : Below w5.heap.size w5 ((w5.drewN n).drewN nq) := below_drewN hD _
                  have hbw7 : Below W0.heap.size W0 ((w5.drewN n).drewN nq) := below_drewN hbw6 _
                  have hj7 := HJ5.out.below hD2
                  have bc7 := HB0.out.below hbw7 hs0
                  generalize (w5.drewN n).drewN nq = w7 at hbw7 hj7 bc7 ⊢
                  clear d0 d1 d2 d3 d4 d5 q0 q1 q2 q3 q4 q5 hneq hgd hD hD2 hbw6 f0 f1 f2 f3 f4
                  have d0 := bc7.c0
                  have d1 := bc7.c1
                  have d2 := bc7.c2
                  have hJP := jarPairs_any w.heap.size m2 c.path true w7 hj7 hl2 HS2.out
                  have HZL := Lib.hid (Ck.pairs_len m2 c.path true)
                  generalize Ck.pairs m2 c.path true = z at hJP HZ HZL
                  have hzp : 0 < z.length := by rw [HZ.out]; simp
                  have hz20 : z.length ≤ 20 := Nat.le_trans HZL.out hl2
                  have HZL2 := Lib.hid (show z[z.length - 1]'(by omega) = (c.name, c.val) by
                    have h9 : z[z.length - 1]? = some (c.name, c.val) := by rw [HZ.out]; simp
                    rw [List.getElem?_eq_getElem (by omega)] at h9
                    exact Option.some.inj h9)
                  clear bc7
                  go_wp2_with fail
                  refine hJP.mono ?_
                  rintro e w8 ⟨v8, rfl, hr8, hb8⟩
                  obtain ⟨A8, cap8, hv8, hpc8⟩ := hr8.reads
                  obtain ⟨g8, off8, hA8, hbb8, hcell8⟩ := hpc8 hzp
                  subst hA8
                  subst hv8
                  have hbw8 : Below W0.heap.size W0 w8 := hbw7.trans (hb8.mono hbw7.size)
                  obtain ⟨p0, p1⟩ := hcell8 (z.length - 1) (by omega)
                  rw [HZL2.out] at p0 p1
                  have bc8 := HB0.out.below hbw8 hs0
                  clear d0 d1 d2 hcell8 hpc8 hr8 hb8 hJP hj7
                  have d0 := bc8.c0
                  have d1 := bc8.c1
                  clear bc8
                  have f0 : (0 : Int) < (z.length : Int) := by omega
                  have f1 : (0 : Int) ≤ (z.length : Int) - 1 := by omega
                  have f2 : (z.length : Int) - 1 < (z.length : Int) := by omega
                  have f3 : ((z.length : Int) - 1).toNat = z.length - 1 := by omega
                  have f4 : IntKind.i64.wrap ((z.length : Int) - 1) = (z.length : Int) - 1 := IntWalk.i64_in _ (by omega)
                  have heq := fun w' : World => run_eq_pair w' c.name c.val
                  have hgd := fun w' : World => run_eqGuard_agg (P := Tryd.prog) w' .eql 41 (.tmp 171) (.tmp 176) #[.string (S c.name), .string (S c.val)] #[.string (S c.name), .string (S c.val)] Tryd.guardPair
                  go_wp2
                  go_quiet (fail)
                  go_wp2
                  go_ret
                  exact HEND.out _ (below_drewN hbw8 _)
              · have e1 : ((en : Int) != 0) = true := bne_iff_ne.2 (by omega)
                have hmm := HPE.out hen
                have hCo := cookies_any (.slice A3 m.length cap3) (.slice A5 m2.length cap5) m m2 (w5.drewN n) (CRow.reads (own_below HROW4.out hD)) (CRow.reads (own_below HROW5.out hD)) (by omega)
                rw [show decide (m = m2) = true from decide_eq_true hmm.symm] at hCo
                clear hen hmm
                go_wp2_with (go_at_call 28; refine hCo.mono ?_; rintro e w8 ⟨rfl, n8, rfl⟩)
                go_ret
                exact HEND.out _ (below_drewN hbw5 _)
  · have h50' : (50 : Int) < (l.length : Int) := by omega
    clear h50
    go_wp2
    go_ret
    exact HEND.out _ hW2
end Go.Proofs.YtpdilhnbbokipaaDoor
