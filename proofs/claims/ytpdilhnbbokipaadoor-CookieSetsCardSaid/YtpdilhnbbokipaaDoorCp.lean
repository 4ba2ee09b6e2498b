/- What package cookie's Pairs answers, for any jar of at most 20 cookies with texts of at most 2^30 bytes. -/
import Derived.Test.YtpdilhnbbokipaaDoorCo
namespace Go.Proofs.YtpdilhnbbokipaaDoor
set_option maxRecDepth 8000
open Go.RowKit

theorem pairs_snoc (l : List Ck.C) (path : List UInt8) (secure : Bool) (k : Nat) (hk : k < l.length) : Ck.pairs (l.take (k + 1)) path secure = Ck.pairs (l.take k) path secure ++ (if Ck.sends path secure l[k] = true then [(l[k].name, l[k].val)] else []) := by
  unfold Ck.pairs
  rw [List.take_succ_eq_append_getElem hk, List.filter_append, List.map_append]
  congr 1
  cases h : Ck.sends path secure l[k] <;> simp [h]
theorem sends_no {path : List UInt8} {secure : Bool} {c : Ck.C} (h : Ck.under path c.path = false) : Ck.sends path secure c = false := by unfold Ck.sends; rw [h]; rfl
theorem sends_is {path : List UInt8} {secure : Bool} {c : Ck.C} (h : Ck.under path c.path = true) : Ck.sends path secure c = (secure || !c.sec) := by unfold Ck.sends; rw [h]; rfl
def SmallAll (l : List Ck.C) : Prop := ∀ c ∈ l, Small c

set_option maxHeartbeats 1600000 in
theorem jarPairs_any (b : Nat) (l : List Ck.C) (path : List UInt8) (secure : Bool) (w : World) (hj : JarAt w b l) (hl : l.length ≤ 20) (hsm : SmallAll l) :
    Calls Tryd.prog 30 #[.pointer (some ⟨b, 0, none⟩), .string (S path), .bool secure] w fun e w' => ∃ v, e = .returned v ∧ PRow w.heap.size w' v (Ck.pairs l path secure) ∧ Below w.heap.size w w' := by
  obtain ⟨i0, hi0, hz0, hz1, hz2⟩ := info_parts Tryd.infoPair
  have h63 : 20 + 1 ≤ maxLen := by unfold maxLen; omega
  obtain ⟨v, hbk, hrd⟩ := hj
  have c0 : w.cell? ⟨b, 0, none⟩ = some v := cell_of_row w b 0 _ _ _ hbk
  obtain ⟨A, cap, rfl, hcc⟩ := hrd
  have HCC := Lib.hid hcc
  have HSM := Lib.hid hsm
  clear hbk hcc hsm
  go_enter Tryd.func30, Tryd.ntmps30
  go_wp2
  go_loopw [7, 15] (fun v i wr => ∃ (k : Nat) (acc : List Pct.PairL) (A' : Option Addr) (cap' : Nat), k ≤ l.length ∧ i = .int .i64 k ∧ acc = Ck.pairs (l.take k) path secure ∧ acc.length ≤ 20 ∧ v = .slice A' acc.length cap' ∧ PRow w.heap.size wr (.slice A' acc.length cap') acc ∧ Below w.heap.size w wr) (fun _ i _ => l.length - (intOf i).toNat)
  case atStart => exact ⟨0, [], none, 0, Nat.zero_le _, rfl, rfl, by simp, rfl, World.ownsRow_nil _ _ _ _, Below.refl _ _⟩
  case round =>
    obtain ⟨k, acc, A', cap', hk, rfl, hacc, hal, rfl, hrow, hb⟩ := hrel
    have HACC := Lib.hid hacc
    clear hacc
    have hbs := hb.size
    by_cases hlt : k < l.length
    · obtain ⟨g, off, rfl, hbb, h6⟩ := HCC.out.at6 k hlt
      have hat : At6 wr g (off + k * 6) l[k] := fun i u hu => (hb.cell (p := ⟨g, off + k * 6 + i, none⟩) hbb).trans (h6 i u hu)
      have HN := Lib.hid (pairs_snoc l path secure k hlt)
      have hsc := (HSM.out l[k] (List.getElem_mem hlt)).2.2
      have HL := Lib.hid (show (Ck.pairs (l.take (k + 1)) path secure).length ≤ 20 by
        have h1 := Ck.pairs_len (l.take (k + 1)) path secure
        rw [List.length_take] at h1
        omega)
      clear h6
      obtain ⟨x, hx⟩ : ∃ x, x = l[k] := ⟨_, rfl⟩
      rw [← hx] at hat HN hsc
      clear hx
      rw [← HACC.out] at HN
      have d0 := hat.c0
      have d1 := hat.c1
      have d2 := hat.c2
      have d3 := hat.c3
      have d4 := hat.c4
      have d5 := hat.c5
      clear hat
      have n0 : (0 : Int) ≤ (k : Int) := by omega
      have n1 : (k : Int) < (l.length : Int) := by omega
      go_upto_region 5 with fail
      have hX := Blk6.new wr x
      have hW : Below wr.heap.size wr (wr.alloc (.cells #[.string (S x.name), .string (S x.val), .string (S x.path), .int .i64 x.age, .bool x.sec, .bool x.http] 32)) := (Below.refl _ _).alloc (Nat.le_refl _) _
      generalize (wr.alloc (.cells #[.string (S x.name), .string (S x.val), .string (S x.path), .int .i64 x.age, .bool x.sec, .bool x.http] 32)) = w2 at hW hX ⊢
      clear d0 d1 d2 d3 d4 d5
      have d0 := hX.c0
      have d1 := hX.c1
      have d2 := hX.c2
      have d4 := hX.c4
      have hrow2 : PRow w.heap.size w2 (.slice A' acc.length cap') acc := own_below hrow hW
      have hb2 : Below w.heap.size w w2 := hb.trans (hW.mono hbs)
      have hbs2 := hb2.size
      clear hX hW hrow hb
      have hU := isUnder_any path x.path w2 hsc
      cases hu : Ck.under path x.path with
      | false =>
        rw [hu] at hU
        rw [sends_no hu, if_neg (by simp), List.append_nil] at HN
        clear hu
        go_wp2_with (go_at_call 48; refine hU.mono ?_; rintro e w3 ⟨rfl, rfl⟩)
        go_roundw
        case rel => exact ⟨k + 1, acc, A', cap', by omega, by go_num, HN.out.symm, hal, rfl, hrow2, hb2⟩
        case measure => simp [intOf]; omega
      | true =>
        rw [hu] at hU
        rw [sends_is hu] at HN
        clear hu
        have hown : w2.ownsRow w.heap.size 41 2 (.slice A' acc.length cap') acc.length (cells2 acc) := hrow2
        have hyes : secure = true ∨ (secure = false ∧ x.sec = false) ∨ (secure = false ∧ x.sec = true) := by
          cases secure with
          | true => exact .inl rfl
          | false =>
            cases x.sec with
            | true => exact .inr (.inr ⟨rfl, rfl⟩)
            | false => exact .inr (.inl ⟨rfl, rfl⟩)
        rcases hyes with hs | ⟨hs, hx⟩ | ⟨hs, hx⟩
        · subst hs
          rw [if_pos (by simp)] at HN
          have HL2 := Lib.hid (show acc.length + 1 ≤ 20 by have := HL.out; rw [HN.out] at this; simpa using this)
          have hal2 := HL2.out
          go_wp2_with (first
            | (go_at_call 48; refine hU.mono ?_; rintro e w3 ⟨rfl, rfl⟩)
            | (at_builtin; refine wpList_append_lies _ rfl (.tmp 31) (.tmp 37) _ rfl w.heap.size 41 i0 _ 2 32 Tryd.underlying22 hi0 hz0 hz1 hz2 rfl (by omega) (.slice A' acc.length cap') acc.length (cells2 acc) rfl (hown.alloc _) ⟨w2.heap.size, 0, none⟩ 1 1 [.string (S x.name), .string (S x.val)] rfl rfl (World.news_of_block (cs := #[.string (S x.name), .string (S x.val)]) (t := 41) (fr := (0, 0)) (heap_alloc_new w2 _)) (by simp [Value.oneCell']) (by omega) (by omega) (by omega) (by simp; omega) (w2.heap.size + 1) (by simp) ?_; intro gg cp w6 hown6 hgrow hat hlt6))
          go_roundw
          case rel => exact ⟨k + 1, acc ++ [(x.name, x.val)], some ⟨gg, 0, none⟩, cp, by omega, by go_num, HN.out.symm, by simp; omega, by simp, prow_snoc hown6, (hb2.alloc hbs2 _).grown hgrow (by simp; omega) (fun q hq => (World.ownsRow.lt hown q hq).1)⟩
          case measure => simp [intOf]; omega
        · subst hs
          rw [hx] at HN d4
          clear hx
          rw [if_pos (by simp)] at HN
          have HL2 := Lib.hid (show acc.length + 1 ≤ 20 by have := HL.out; rw [HN.out] at this; simpa using this)
          have hal2 := HL2.out
          go_wp2_with (first
            | (go_at_call 48; refine hU.mono ?_; rintro e w3 ⟨rfl, rfl⟩)
            | (at_builtin; refine wpList_append_lies _ rfl (.tmp 31) (.tmp 37) _ rfl w.heap.size 41 i0 _ 2 32 Tryd.underlying22 hi0 hz0 hz1 hz2 rfl (by omega) (.slice A' acc.length cap') acc.length (cells2 acc) rfl (hown.alloc _) ⟨w2.heap.size, 0, none⟩ 1 1 [.string (S x.name), .string (S x.val)] rfl rfl (World.news_of_block (cs := #[.string (S x.name), .string (S x.val)]) (t := 41) (fr := (0, 0)) (heap_alloc_new w2 _)) (by simp [Value.oneCell']) (by omega) (by omega) (by omega) (by simp; omega) (w2.heap.size + 1) (by simp) ?_; intro gg cp w6 hown6 hgrow hat hlt6))
          go_roundw
          case rel => exact ⟨k + 1, acc ++ [(x.name, x.val)], some ⟨gg, 0, none⟩, cp, by omega, by go_num, HN.out.symm, by simp; omega, by simp, prow_snoc hown6, (hb2.alloc hbs2 _).grown hgrow (by simp; omega) (fun q hq => (World.ownsRow.lt hown q hq).1)⟩
          case measure => simp [intOf]; omega
        · subst hs
          rw [hx] at HN d4
          clear hx
          rw [if_neg (by simp), List.append_nil] at HN
          go_wp2_with (go_at_call 48; refine hU.mono ?_; rintro e w3 ⟨rfl, rfl⟩)
          go_roundw
          case rel => exact ⟨k + 1, acc, A', cap', by omega, by go_num, HN.out.symm, hal, rfl, hrow2, hb2⟩
          case measure => simp [intOf]; omega
    · have HD := Lib.hid (show acc = Ck.pairs l path secure by rw [HACC.out, List.take_of_length_le (by omega)])
      go_wp2
      go_ret
      exact ⟨_, rfl, by rw [← HD.out]; exact hrow, hb⟩
end Go.Proofs.YtpdilhnbbokipaaDoor
