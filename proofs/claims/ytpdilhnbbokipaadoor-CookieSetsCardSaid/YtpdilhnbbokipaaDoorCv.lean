/- What the document's Under and Put answer, for any cookies with texts of at most 2^30 bytes, at most 20 of them. -/
import Derived.Test.YtpdilhnbbokipaaDoorCu
import Derived.Deep.DeepCutAuto
namespace Go.Proofs.YtpdilhnbbokipaaDoor
set_option maxRecDepth 8000
open Go.RowKit

theorem rest_snoc (l : List Ck.C) (c : Ck.C) (k : Nat) (hk : k < l.length) : Ck.rest (l.take (k + 1)) c = Ck.rest (l.take k) c ++ (if Ck.same c l[k] = true then [] else [l[k]]) := by
  unfold Ck.rest
  rw [List.take_succ_eq_append_getElem hk, List.filter_append]
  congr 1
  cases h : Ck.same c l[k] <;> simp [h]

def PutPost (base : Nat) (w : World) (l : List Ck.C) (c : Ck.C) (e : Ending) (w' : World) : Prop :=
  ∃ v', e = .returned (.tuple #[v', .int .i64 (Ck.putE l c)]) ∧ CRow base w' v' (Ck.put l c) ∧ Below w.heap.size w w'

set_option maxHeartbeats 3200000 in
theorem refPut_any (base : Nat) (v : Value) (l : List Ck.C) (c : Ck.C) (w : World) (hrow : CRow base w v l) (hbase : base ≤ w.heap.size) (hc : Small c) (hl : l.length ≤ 20) :
    Calls Tryd.prog 27 #[v, cV c] w (PutPost base w l c) := by
  obtain ⟨i0, hi0, hz0, hz1, hz2⟩ := info_parts Tryd.infoCookie
  have h63 : 20 + 1 ≤ maxLen := by unfold maxLen; omega
  obtain ⟨A, cap, rfl⟩ := hrow.form
  have HCC := Lib.hid (show CCells w w.heap.size A l by
    obtain ⟨A', cap', hv', hcc⟩ := hrow.reads
    injection hv' with h1 h2 h3
    subst h1
    exact hcc)
  have HROW := Lib.hid hrow
  clear hrow
  have b0 := Blk6.new w c
  have hb0 : Below w.heap.size w (w.alloc (.cells #[.string (S c.name), .string (S c.val), .string (S c.path), .int .i64 c.age, .bool c.sec, .bool c.http] 32)) := (Below.refl _ _).alloc (Nat.le_refl _) _
  have d0 := b0.c0
  have d1 := b0.c1
  have d2 := b0.c2
  have d3 := b0.c3
  have d4 := b0.c4
  have d5 := b0.c5
  go_enter Tryd.func27, Tryd.ntmps27
  go_wp2_with fail
  refine (refRight_any c _ hc).mono ?_
  rintro e w1 ⟨rfl, hb1⟩
  have b1 : Blk6 w1 w.heap.size c := b0.below hb1 (by simp)
  have hbw : Below w.heap.size w w1 := hb0.trans (hb1.mono (by simp))
  clear b0 hb0 hb1 d0 d1 d2 d3 d4 d5
  have h1lt := b1.lt
  have hw1 := hbw.size
  cases hr : Ck.right c with
  | false =>
    have HE := Lib.hid (show Ck.putE l c = 1 by unfold Ck.putE; rw [hr]; rfl)
    have HP := Lib.hid (show Ck.put l c = l by unfold Ck.put; rw [hr]; rfl)
    clear hr
    go_wp2
    go_ret2
    exact ⟨_, by rw [HE.out]; rfl, by rw [HP.out]; exact own_below HROW.out hbw, hbw⟩
  | true =>
    have HE := Lib.hid (show Ck.putE l c = if c.age = 0 then 0 else if (Ck.rest l c).length = 20 then 5 else 0 by unfold Ck.putE; rw [hr]; rfl)
    have HP := Lib.hid (show Ck.put l c = if c.age = 0 then Ck.rest l c else if (Ck.rest l c).length = 20 then l else Ck.rest l c ++ [c] by unfold Ck.put; rw [hr]; rfl)
    clear hr
    have HB1 := Lib.hid b1
    clear b1
    go_wp2
    go_loopw [7, 8] (fun v i wr => ∃ (k : Nat) (acc : List Ck.C) (A' : Option Addr) (cap' : Nat), k ≤ l.length ∧ i = .int .i64 k ∧ acc = Ck.rest (l.take k) c ∧ v = .slice A' acc.length cap' ∧ CRow w1.heap.size wr (.slice A' acc.length cap') acc ∧ Below w1.heap.size w1 wr) (fun _ i _ => l.length - (intOf i).toNat)
    case atStart => exact ⟨0, [], none, 0, Nat.zero_le _, rfl, rfl, rfl, World.ownsRow_nil _ _ _ _, Below.refl _ _⟩
    case round =>
      obtain ⟨k, acc, A', cap', hk, rfl, hacc, rfl, hrow, hb⟩ := hrel
      have hal : acc.length ≤ k := by
        rw [hacc]
        have h1 := Ck.rest_len (l.take k) c
        rw [List.length_take] at h1
        omega
      have HACC := Lib.hid hacc
      clear hacc
      have hbs := hb.size
      have bk : Blk6 wr w.heap.size c := HB1.out.below hb h1lt
      have hbw' : Below w.heap.size w wr := hbw.trans (hb.mono hw1)
      by_cases hlt : k < l.length
      · obtain ⟨g, off, rfl, hbb, h6⟩ := HCC.out.at6 k hlt
        have hat : At6 wr g (off + k * 6) l[k] := fun i u hu => (hbw'.cell (p := ⟨g, off + k * 6 + i, none⟩) hbb).trans (h6 i u hu)
        have HN := Lib.hid (rest_snoc l c k hlt)
        clear h6
        obtain ⟨x, hx⟩ : ∃ x, x = l[k] := ⟨_, rfl⟩
        rw [← hx] at hat HN
        clear hx
        rw [← HACC.out] at HN
        have q0 := hat.c0
        have q2 := hat.c2
        have HAT := Lib.hid hat
        clear hat
        have r0 := bk.c0
        have r2 := bk.c2
        have n0 : (0 : Int) ≤ (k : Int) := by omega
        have n1 : (k : Int) < (l.length : Int) := by omega
        have s1 : ((S x.name).toList == (S c.name).toList) = (x.name == c.name) := by rw [S_list, S_list]
        have s2 : ((S x.path).toList == (S c.path).toList) = (x.path == c.path) := by rw [S_list, S_list]
        cases hs : Ck.same c x with
        | true =>
          rw [if_pos hs, List.append_nil] at HN
          have hss : (x.name == c.name) = true ∧ (x.path == c.path) = true := by unfold Ck.same at hs; simpa using hs
          rw [hss.1] at s1
          rw [hss.2] at s2
          clear hs hss
          go_wp2
          go_quiet (fail)
          go_wp2
          go_roundw
          case rel => exact ⟨k + 1, acc, A', cap', by omega, by go_num, HN.out.symm, rfl, own_below hrow (below_drewN (Below.refl _ _) _), below_drewN hb _⟩
          case measure => simp [intOf]; omega
        | false =>
          rw [if_neg (by rw [hs]; simp)] at HN
          have hss : (x.name == c.name) = false ∨ ((x.name == c.name) = true ∧ (x.path == c.path) = false) := by
            unfold Ck.same at hs
            cases h1 : (x.name == c.name) with
            | false => exact .inl rfl
            | true => rw [h1] at hs; exact .inr ⟨rfl, by simpa using hs⟩
          clear hs
          rcases hss with h1 | ⟨h1, h2⟩
          · rw [h1] at s1
            clear h1 s2
            go_wp2
            go_quiet (fail)
            go_upto_region 9 with fail
            have hD : Below wr.heap.size wr (wr.drewN nq) := below_drewN (Below.refl _ _) _
            have hat5 : At6 (wr.drewN nq) g (off + k * 6) x := fun i u hu => (hD.cell (p := ⟨g, off + k * 6 + i, none⟩) (by show g < _; omega)).trans (HAT.out i u hu)
            have hrow5 := own_below hrow hD
            have hb5 : Below w1.heap.size w1 (wr.drewN nq) := hb.trans (hD.mono hbs)
            generalize wr.drewN nq = w5 at hat5 hrow5 hb5 ⊢
            clear hD q0 q2 r0 r2 bk
            have q0 := hat5.c0
            have q1 := hat5.c1
            have q2 := hat5.c2
            have q3 := hat5.c3
            have q4 := hat5.c4
            have q5 := hat5.c5
            clear hat5
            have hbs5 := hb5.size
            have hown : w5.ownsRow w1.heap.size 32 6 (.slice A' acc.length cap') acc.length (cells6 acc) := hrow5
            go_wp2_with (at_builtin; refine wpList_append_lies _ rfl (.tmp 38) (.tmp 43) _ rfl w1.heap.size 32 i0 _ 6 64 Tryd.underlying42 hi0 hz0 hz1 hz2 rfl (by omega) (.slice A' acc.length cap') acc.length (cells6 acc) rfl (hown.alloc _) ⟨w5.heap.size, 0, none⟩ 1 1 (cellsC x) rfl rfl (World.news_of_block (cs := #[.string (S x.name), .string (S x.val), .string (S x.path), .int .i64 x.age, .bool x.sec, .bool x.http]) (t := 32) (fr := (0, 0)) (heap_alloc_new w5 _)) (by simp [Value.oneCell', cellsC]) (by omega) (by omega) (by omega) (by simp; omega) (w5.heap.size + 1) (by simp) ?_; intro gg cp w6 hown6 hgrow hat6 hlt6)
            go_roundw
            case rel => exact ⟨k + 1, acc ++ [x], some ⟨gg, 0, none⟩, cp, by omega, by go_num, HN.out.symm, by simp, by have := crow_snoc hown6; simpa using this, (hb5.alloc hbs5 _).grown hgrow (by simp; omega) (fun q hq => (World.ownsRow.lt hown q hq).1)⟩
            case measure => simp [intOf]; omega
          · rw [h1] at s1
            rw [h2] at s2
            clear h1 h2
            go_wp2
            go_quiet (fail)
            go_upto_region 9 with fail
            have hD : Below wr.heap.size wr (wr.drewN nq) := below_drewN (Below.refl _ _) _
            have hat5 : At6 (wr.drewN nq) g (off + k * 6) x := fun i u hu => (hD.cell (p := ⟨g, off + k * 6 + i, none⟩) (by show g < _; omega)).trans (HAT.out i u hu)
            have hrow5 := own_below hrow hD
            have hb5 : Below w1.heap.size w1 (wr.drewN nq) := hb.trans (hD.mono hbs)
            generalize wr.drewN nq = w5 at hat5 hrow5 hb5 ⊢
            clear hD q0 q2 r0 r2 bk
            have q0 := hat5.c0
            have q1 := hat5.c1
            have q2 := hat5.c2
            have q3 := hat5.c3
            have q4 := hat5.c4
            have q5 := hat5.c5
            clear hat5
            have hbs5 := hb5.size
            have hown : w5.ownsRow w1.heap.size 32 6 (.slice A' acc.length cap') acc.length (cells6 acc) := hrow5
            go_wp2_with (at_builtin; refine wpList_append_lies _ rfl (.tmp 38) (.tmp 43) _ rfl w1.heap.size 32 i0 _ 6 64 Tryd.underlying42 hi0 hz0 hz1 hz2 rfl (by omega) (.slice A' acc.length cap') acc.length (cells6 acc) rfl (hown.alloc _) ⟨w5.heap.size, 0, none⟩ 1 1 (cellsC x) rfl rfl (World.news_of_block (cs := #[.string (S x.name), .string (S x.val), .string (S x.path), .int .i64 x.age, .bool x.sec, .bool x.http]) (t := 32) (fr := (0, 0)) (heap_alloc_new w5 _)) (by simp [Value.oneCell', cellsC]) (by omega) (by omega) (by omega) (by simp; omega) (w5.heap.size + 1) (by simp) ?_; intro gg cp w6 hown6 hgrow hat6 hlt6)
            go_roundw
            case rel => exact ⟨k + 1, acc ++ [x], some ⟨gg, 0, none⟩, cp, by omega, by go_num, HN.out.symm, by simp, by have := crow_snoc hown6; simpa using this, (hb5.alloc hbs5 _).grown hgrow (by simp; omega) (fun q hq => (World.ownsRow.lt hown q hq).1)⟩
            case measure => simp [intOf]; omega
      · have hm : acc = Ck.rest l c := by rw [HACC.out, List.take_of_length_le (by omega)]
        have hrl : acc.length ≤ 20 := by omega
        rw [← hm] at HE HP
        clear hm HACC
        have d0 := bk.c0
        have d1 := bk.c1
        have d2 := bk.c2
        have d3 := bk.c3
        have d4 := bk.c4
        have d5 := bk.c5
        by_cases hage : c.age = 0
        · have e0 : (c.age != 0) = false := by rw [hage]; rfl
          rw [if_pos hage] at HE HP
          have h20 : (acc.length : Int) ≤ 20 := by omega
          clear hage
          go_wp2
          go_ret2
          exact ⟨_, by rw [HE.out]; rfl, by rw [HP.out]; exact own_mono hrow (Nat.le_trans hbase hw1), hbw'⟩
        · have e0 : (c.age != 0) = true := bne_iff_ne.2 hage
          rw [if_neg hage] at HE HP
          clear hage
          have hown : wr.ownsRow w1.heap.size 32 6 (.slice A' acc.length cap') acc.length (cells6 acc) := hrow
          by_cases hfull : acc.length = 20
          · rw [if_pos hfull] at HE HP
            have h20 : (20 : Int) < (acc.length : Int) + 1 := by omega
            have h20' : ¬ ((acc.length : Int) + 1 ≤ 20) := by omega
            clear hfull
            go_wp2_with (at_builtin; refine wpList_append_lies _ rfl (.tmp 48) (.tmp 50) _ rfl w1.heap.size 32 i0 _ 6 64 Tryd.underlying42 hi0 hz0 hz1 hz2 rfl (by omega) (.slice A' acc.length cap') acc.length (cells6 acc) rfl (hown.alloc _) ⟨wr.heap.size, 0, none⟩ 1 1 (cellsC c) rfl rfl (World.news_of_block (cs := #[.string (S c.name), .string (S c.val), .string (S c.path), .int .i64 c.age, .bool c.sec, .bool c.http]) (t := 32) (fr := (0, 0)) (heap_alloc_new wr _)) (by simp [Value.oneCell', cellsC]) (by omega) (by omega) (by omega) (by simp; omega) (wr.heap.size + 1) (by simp) ?_; intro gg cp w6 hown6 hgrow hat6 hlt6)
            have hb6 : Below w1.heap.size w1 w6 := (hb.alloc hbs _).grown hgrow (by simp; omega) (fun q hq => (World.ownsRow.lt hown q hq).1)
            have hbw6 : Below w.heap.size w w6 := hbw.trans (hb6.mono hw1)
            go_ret2
            exact ⟨_, by rw [HE.out]; rfl, by rw [HP.out]; exact own_below HROW.out hbw6, hbw6⟩
          · rw [if_neg hfull] at HE HP
            have h20 : (acc.length : Int) + 1 ≤ 20 := by omega
            clear hfull
            go_wp2_with (at_builtin; refine wpList_append_lies _ rfl (.tmp 48) (.tmp 50) _ rfl w1.heap.size 32 i0 _ 6 64 Tryd.underlying42 hi0 hz0 hz1 hz2 rfl (by omega) (.slice A' acc.length cap') acc.length (cells6 acc) rfl (hown.alloc _) ⟨wr.heap.size, 0, none⟩ 1 1 (cellsC c) rfl rfl (World.news_of_block (cs := #[.string (S c.name), .string (S c.val), .string (S c.path), .int .i64 c.age, .bool c.sec, .bool c.http]) (t := 32) (fr := (0, 0)) (heap_alloc_new wr _)) (by simp [Value.oneCell', cellsC]) (by omega) (by omega) (by omega) (by simp; omega) (wr.heap.size + 1) (by simp) ?_; intro gg cp w6 hown6 hgrow hat6 hlt6)
            have hb6 : Below w1.heap.size w1 w6 := (hb.alloc hbs _).grown hgrow (by simp; omega) (fun q hq => (World.ownsRow.lt hown q hq).1)
            have hbw6 : Below w.heap.size w w6 := hbw.trans (hb6.mono hw1)
            have hrow6 : CRow w1.heap.size w6 (.slice (some ⟨gg, 0, none⟩) (acc.length + 1) cp) (acc ++ [c]) := crow_snoc hown6
            go_ret2
            exact ⟨_, by rw [HE.out]; rfl, by rw [HP.out]; exact own_mono hrow6 (Nat.le_trans hbase hw1), hbw6⟩
end Go.Proofs.YtpdilhnbbokipaaDoor
