/- What the document's Pairs and Cookies answer, for any cookies with texts of at most 2^30 bytes, at most 20 of them (Cookies: at most 2^20). -/
import Derived.Test.YtpdilhnbbokipaaDoorCw
namespace Go.Proofs.YtpdilhnbbokipaaDoor
set_option maxRecDepth 8000
open Go.RowKit

set_option maxHeartbeats 1600000 in
theorem refPairs_any (A : Option Addr) (cap : Nat) (l : List Ck.C) (path : List UInt8) (secure : Bool) (w : World) (hcc : CCells w w.heap.size A l) (hl : l.length ≤ 20) (hsm : SmallAll l) (hp : path.length ≤ 1073741824) :
    Calls Tryd.prog 31 #[.slice A l.length cap, .string (S path), .bool secure] w fun e w' => ∃ v, e = .returned v ∧ PRow w.heap.size w' v (Ck.pairs l path secure) ∧ Below w.heap.size w w' := by
  obtain ⟨i0, hi0, hz0, hz1, hz2⟩ := info_parts Tryd.infoPair
  have h63 : 20 + 1 ≤ maxLen := by unfold maxLen; omega
  have HCC := Lib.hid hcc
  have HSM := Lib.hid hsm
  clear hcc hsm
  go_enter Tryd.func31, Tryd.ntmps31
  go_wp2
  go_loopw [7, 8] (fun v i wr => ∃ (k : Nat) (acc : List Pct.PairL) (A' : Option Addr) (cap' : Nat), k ≤ l.length ∧ i = .int .i64 k ∧ acc = Ck.pairs (l.take k) path secure ∧ acc.length ≤ 20 ∧ v = .slice A' acc.length cap' ∧ PRow w.heap.size wr (.slice A' acc.length cap') acc ∧ Below w.heap.size w wr) (fun _ i _ => l.length - (intOf i).toNat)
  case atStart => exact ⟨0, [], none, 0, Nat.zero_le _, rfl, rfl, by simp, rfl, World.ownsRow_nil _ _ _ _, Below.refl _ _⟩
  case round =>
    obtain ⟨k, acc, A', cap', hk, rfl, hacc, hal, rfl, hrow, hb⟩ := hrel
    have HACC := Lib.hid hacc
    clear hacc
    have hbs := hb.size
    by_cases hlt : k < l.length
    · obtain ⟨g, off, rfl, hbb, h6⟩ := HCC.out.at6 k hlt
      have hat : At6 wr g (off + k * 6) l[k] := fun i u hu => (hb.cell (p := ⟨g, off + k * 6 + i, none⟩) hbb).trans (h6 i u hu)
      have HN := Lib.hid (pairs_snoc l path secure k hlt)
      have hsc := (HSM.out l[k] (List.getElem_mem hlt)).2.2
      have HL := Lib.hid (show (Ck.pairs (l.take (k + 1)) path secure).length ≤ 20 by
        have h1 := Ck.pairs_len (l.take (k + 1)) path secure
        rw [List.length_take] at h1
        omega)
      clear h6
      obtain ⟨x, hx⟩ : ∃ x, x = l[k] := ⟨_, rfl⟩
      rw [← hx] at hat HN hsc
      clear hx
      rw [← HACC.out] at HN
      have d0 := hat.c0
      have d1 := hat.c1
      have d2 := hat.c2
      have d4 := hat.c4
      clear hat
      have n0 : (0 : Int) ≤ (k : Int) := by omega
      have n1 : (k : Int) < (l.length : Int) := by omega
      have hU := refUnder_any path x.path wr hp hsc
      cases hu : Ck.under path x.path with
      | false =>
        rw [hu] at hU
        rw [sends_no hu, if_neg (by simp), List.append_nil] at HN
        clear hu
        go_wp2_with (go_at_call 49; refine hU.mono ?_; rintro e w3 ⟨rfl, rfl⟩)
        go_roundw
        case rel => exact ⟨k + 1, acc, A', cap', by omega, by go_num, HN.out.symm, hal, rfl, hrow, hb⟩
        case measure => simp [intOf]; omega
      | true =>
        rw [hu] at hU
        rw [sends_is hu] at HN
        clear hu
        have hown : wr.ownsRow w.heap.size 41 2 (.slice A' acc.length cap') acc.length (cells2 acc) := hrow
        have ag : some g ≠ (Value.slice A' acc.length cap').ownBlock := fun h => by have := (hown.lt _ h.symm).1; omega
        have hgl : g < wr.heap.size := by omega
        have hyes : (secure = true ∨ (secure = false ∧ x.sec = false)) ∨ (secure = false ∧ x.sec = true) := by
          cases secure with
          | true => exact .inl (.inl rfl)
          | false =>
            cases x.sec with
            | true => exact .inr ⟨rfl, rfl⟩
            | false => exact .inl (.inr ⟨rfl, rfl⟩)
        rcases hyes with hs | ⟨hs, hx⟩
        · rw [if_pos (by rcases hs with h | ⟨h, h'⟩ <;> simp [*])] at HN
          have HL2 := Lib.hid (show acc.length + 1 ≤ 20 by have := HL.out; rw [HN.out] at this; simpa using this)
          have hal2 := HL2.out
          rcases hs with hs | ⟨hs, hx⟩
          · subst hs
            go_wp2_with (go_at_call 49; refine hU.mono ?_; rintro e w3 ⟨rfl, rfl⟩)
            go_region_held3 (fun w' => w'.cell? ⟨g, off + k * 6, none⟩ = some (.string (S x.name)) ∧ w'.cell? ⟨g, off + k * 6 + 1, none⟩ = some (.string (S x.val)))
              (first
                | go_keep
                | (go_split_ands
                   refine ⟨?_, ?_⟩
                   · (rw [hgrow.cell_far _ (by first | (simp; done) | (simp; omega)) ag]; assumption)
                   · (rw [hgrow.cell_far _ (by first | (simp; done) | (simp; omega)) ag]; assumption)))
              ((refine step_append_lies _ (by rfl) _ _ _ (by rfl) w.heap.size 41 i0 _ 2 32 Tryd.underlying22 hi0 hz0 hz1 hz2 rfl (by omega) (.slice A' acc.length cap') acc.length (cells2 acc) (by rfl) ((hown.alloc _).drew)
                    ⟨wr.heap.size, 0, none⟩ 1 1 [.string (S x.name), .string (S x.val)] (by rfl) (by rfl) (World.news_of_block (cs := #[.string (S x.name), .string (S x.val)]) (t := 41) (fr := (0, 0)) (heap_alloc_new wr _)) (by simp [Value.oneCell'])
                    (by omega) (by omega) (by omega) (by simp; omega) (wr.heap.size + 1) (by simp) ?_; intro gg cp w6 hown6 hgrow hat hlt6))
            go_wp2
            go_roundw
            case rel => exact ⟨k + 1, acc ++ [(x.name, x.val)], some ⟨gg, 0, none⟩, cp, by omega, by go_num, HN.out.symm, by simp; omega, by simp, prow_snoc hown6, ((hb.alloc hbs _).drew).grown hgrow (by simp; omega) (fun q hq => (World.ownsRow.lt hown q hq).1)⟩
            case measure => simp [intOf]; omega
          · subst hs
            rw [hx] at d4
            clear hx
            go_wp2_with (go_at_call 49; refine hU.mono ?_; rintro e w3 ⟨rfl, rfl⟩)
            go_region_held3 (fun w' => w'.cell? ⟨g, off + k * 6, none⟩ = some (.string (S x.name)) ∧ w'.cell? ⟨g, off + k * 6 + 1, none⟩ = some (.string (S x.val)))
              (first
                | go_keep
                | (go_split_ands
                   refine ⟨?_, ?_⟩
                   · (rw [hgrow.cell_far _ (by first | (simp; done) | (simp; omega)) ag]; assumption)
                   · (rw [hgrow.cell_far _ (by first | (simp; done) | (simp; omega)) ag]; assumption)))
              ((refine step_append_lies _ (by rfl) _ _ _ (by rfl) w.heap.size 41 i0 _ 2 32 Tryd.underlying22 hi0 hz0 hz1 hz2 rfl (by omega) (.slice A' acc.length cap') acc.length (cells2 acc) (by rfl) ((hown.alloc _).drew)
                    ⟨wr.heap.size, 0, none⟩ 1 1 [.string (S x.name), .string (S x.val)] (by rfl) (by rfl) (World.news_of_block (cs := #[.string (S x.name), .string (S x.val)]) (t := 41) (fr := (0, 0)) (heap_alloc_new wr _)) (by simp [Value.oneCell'])
                    (by omega) (by omega) (by omega) (by simp; omega) (wr.heap.size + 1) (by simp) ?_; intro gg cp w6 hown6 hgrow hat hlt6))
            go_wp2
            go_roundw
            case rel => exact ⟨k + 1, acc ++ [(x.name, x.val)], some ⟨gg, 0, none⟩, cp, by omega, by go_num, HN.out.symm, by simp; omega, by simp, prow_snoc hown6, ((hb.alloc hbs _).drew).grown hgrow (by simp; omega) (fun q hq => (World.ownsRow.lt hown q hq).1)⟩
            case measure => simp [intOf]; omega
        · subst hs
          rw [hx] at HN d4
          clear hx
          rw [if_neg (by simp), List.append_nil] at HN
          go_wp2_with (go_at_call 49; refine hU.mono ?_; rintro e w3 ⟨rfl, rfl⟩)
          go_roundw
          case rel => exact ⟨k + 1, acc, A', cap', by omega, by go_num, HN.out.symm, hal, rfl, hrow, hb⟩
          case measure => simp [intOf]; omega
    · have HD := Lib.hid (show acc = Ck.pairs l path secure by rw [HACC.out, List.take_of_length_le (by omega)])
      go_wp2
      go_ret
      exact ⟨_, rfl, by rw [← HD.out]; exact hrow, hb⟩

/-! ### Cookies held against each other -/
def cEq (u v : Ck.C) : Bool := u.name == v.name && (u.val == v.val && (u.path == v.path && (u.age == v.age && (u.sec == v.sec && u.http == v.http))))
theorem cEq_iff (u v : Ck.C) : cEq u v = true ↔ u = v := by
  obtain ⟨a, b, c, d, e, f⟩ := u
  obtain ⟨a', b', c', d', e', f'⟩ := v
  unfold cEq
  simp
theorem cEq_self (u : Ck.C) : cEq u u = true := (cEq_iff u u).2 rfl
theorem cEq_ne {u v : Ck.C} (h : u ≠ v) : cEq u v = false := by
  cases hb : cEq u v with
  | false => rfl
  | true => exact absurd ((cEq_iff u v).1 hb) h
theorem Tryd.fieldsC : Tryd.prog.underlying 32 = some (.struct (Tryd.prog.fieldsOf 32)) := by kernel_rfl
theorem Tryd.heldC : Tryd.prog.stoodInHeld 32 = false := by kernel_rfl
theorem Tryd.guardC : Tryd.prog.eqGuardType Tryd.prog.depth 32 = false := by kernel_rfl
theorem run_equal_cookie (w : World) (u v : Ck.C) : (Op.equalIn 10000 32 (cV u) (cV v)).run Tryd.prog w = .ok (cEq u v) w := by
  rw [run_equalIn_struct w 9999 32 _ _ Tryd.fieldsC Tryd.heldC]
  obtain ⟨a, b, c, d, e, f⟩ := u
  obtain ⟨a', b', c', d', e', f'⟩ := v
  unfold cEq
  have hS := S_list
  simp [Program.fieldsOf, Tryd.underlying32, go_sem, hS]
  by_cases h1 : a = a'
  · by_cases h2 : b = b'
    · by_cases h3 : c = c'
      · by_cases h4 : d = d'
        · by_cases h5 : e = e'
          · by_cases h6 : f = f'
            · simp [h1, h2, h3, h4, h5, h6]
            · simp [h1, h2, h3, h4, h5, h6]
          · simp [h1, h2, h3, h4, h5]
        · simp [h1, h2, h3, h4]
      · simp [h1, h2, h3]
    · simp [h1, h2]
  · simp [h1]
theorem run_eq_cookie (w : World) (u v : Ck.C) : (binOp .eql 32 (cV u) (cV v)).run Tryd.prog w = .ok (.bool (cEq u v)) w := by
  have h := run_equal_cookie w u v
  rw [run_eql_struct, h]
  rfl
theorem run_ne_cookie (w : World) (u v : Ck.C) : (binOp .neq 32 (cV u) (cV v)).run Tryd.prog w = .ok (.bool (!cEq u v)) w := by
  have h := run_equal_cookie w u v
  rw [run_neq_struct, h]
  rfl

set_option maxHeartbeats 800000 in
theorem cookies_same (A A' : Option Addr) (cap cap' : Nat) (l m : List Ck.C) (w : World) (hlm : l.length = m.length) (hl : CCells w w.heap.size A l) (hm : CCells w w.heap.size A' m) (hb : l.length ≤ 1099511627776) :
    Calls Tryd.prog 28 #[.slice A l.length cap, .slice A' m.length cap'] w fun e w' => e = .returned (.bool (decide (l = m))) ∧ ∃ n, w' = w.drewN n := by
  have HLM := Lib.hid hlm
  have hne : ((l.length : Int) != (m.length : Int)) = false := by simp; omega
  have HCL := Lib.hid hl
  have HCM := Lib.hid hm
  clear hlm hl hm
  go_enter Tryd.func28, Tryd.ntmps28
  go_wp2
  go_loopw [5] (fun i wr => ∃ k : Nat, k ≤ l.length ∧ i = .int .i64 k ∧ l.take k = m.take k ∧ ∃ n, wr = w.drewN n) (fun i _ => l.length - (intOf i).toNat)
  case atStart => exact ⟨0, Nat.zero_le _, rfl, rfl, 0, rfl⟩
  case round =>
    obtain ⟨k, hk, rfl, htk, n, rfl⟩ := hrel
    have HT := Lib.hid htk
    clear htk
    by_cases hlt : k < l.length
    · have hlt' : k < m.length := by have := HLM.out; omega
      obtain ⟨b, off, rfl, hbb, h6⟩ := HCL.out.at6 k hlt
      obtain ⟨b', off', rfl, hbb', h6'⟩ := HCM.out.at6 k hlt'
      have c0 := h6.c0
      have c1 := h6.c1
      have c2 := h6.c2
      have c3 := h6.c3
      have c4 := h6.c4
      have c5 := h6.c5
      have d0 := h6'.c0
      have d1 := h6'.c1
      have d2 := h6'.c2
      have d3 := h6'.c3
      have d4 := h6'.c4
      have d5 := h6'.c5
      clear h6 h6'
      have n0 : (0 : Int) ≤ (k : Int) := by omega
      have n1 : (k : Int) < (l.length : Int) := by omega
      have n2 : (k : Int) < (m.length : Int) := by omega
      have hneq := fun w' : World => run_ne_cookie w' l[k] m[k]
      have HKK := Lib.hid (rfl : l[k] = l[k])
      obtain ⟨x, hx⟩ : ∃ x, x = l[k] := ⟨_, rfl⟩
      obtain ⟨y, hy⟩ : ∃ y, y = m[k] := ⟨_, rfl⟩
      rw [← hx] at c0 c1 c2 c3 c4 c5 hneq
      rw [← hy] at d0 d1 d2 d3 d4 d5 hneq
      have HX := Lib.hid hx
      have HY := Lib.hid hy
      clear hx hy HKK
      have hgd := fun w' : World => run_eqGuard_agg (P := Tryd.prog) w' .neq 32 (.tmp 20) (.tmp 24) #[.string (S x.name), .string (S x.val), .string (S x.path), .int .i64 x.age, .bool x.sec, .bool x.http] #[.string (S y.name), .string (S y.val), .string (S y.path), .int .i64 y.age, .bool y.sec, .bool y.http] Tryd.guardC
      by_cases hq : x = y
      · rw [show cEq x y = true from (cEq_iff x y).2 hq] at hneq
        have HQ := Lib.hid hq
        clear hq
        go_wp2
        go_quiet (fail)
        go_wp2
        go_roundw
        case rel =>
          refine ⟨k + 1, by omega, by go_num, ?_, _, rfl⟩
          rw [List.take_succ_eq_append_getElem hlt, List.take_succ_eq_append_getElem hlt', HT.out, ← HX.out, ← HY.out, HQ.out]
        case measure => simp [intOf]; omega
      · rw [cEq_ne hq] at hneq
        have HQ := Lib.hid hq
        clear hq
        go_wp2
        go_quiet (fail)
        go_wp2
        go_ret
        refine ⟨ret_bool ?_, _, World.drewN_drewN _ _ _⟩
        have hne' : l ≠ m := by
          intro h
          apply HQ.out
          rw [HX.out, HY.out]
          congr 1
        simp [hne']
    · have hkl : l = m := by
        have := HT.out
        rwa [List.take_of_length_le (by omega), List.take_of_length_le (by have := HLM.out; omega)] at this
      have HK := Lib.hid hkl
      clear hkl
      go_wp2
      go_ret
      exact ⟨ret_bool (by rw [HK.out]; simp), n, rfl⟩
set_option maxHeartbeats 400000 in
theorem cookies_other (A A' : Option Addr) (cap cap' : Nat) (l m : List Ck.C) (w : World) (hlm : l.length ≠ m.length) :
    Calls Tryd.prog 28 #[.slice A l.length cap, .slice A' m.length cap'] w fun e w' => e = .returned (.bool (decide (l = m))) ∧ ∃ n, w' = w.drewN n := by
  have hne : ((l.length : Int) != (m.length : Int)) = true := by simp; omega
  have HLM := Lib.hid hlm
  clear hlm
  go_enter Tryd.func28, Tryd.ntmps28
  go_wp2
  go_ret
  refine ⟨ret_bool ?_, 0, rfl⟩
  have hne' : l ≠ m := by
    intro h
    subst h
    exact HLM.out rfl
  simp [hne']
theorem cookies_any (v v' : Value) (l m : List Ck.C) (w : World) (hl : CReads w w.heap.size v l) (hm : CReads w w.heap.size v' m) (hb : l.length ≤ 1099511627776) :
    Calls Tryd.prog 28 #[v, v'] w fun e w' => e = .returned (.bool (decide (l = m))) ∧ ∃ n, w' = w.drewN n := by
  obtain ⟨A, cap, rfl, h1⟩ := hl
  obtain ⟨A', cap', rfl, h2⟩ := hm
  by_cases h : l.length = m.length
  · exact cookies_same A A' cap cap' l m w h h1 h2 hb
  · exact cookies_other A A' cap cap' l m w h
end Go.Proofs.YtpdilhnbbokipaaDoor
