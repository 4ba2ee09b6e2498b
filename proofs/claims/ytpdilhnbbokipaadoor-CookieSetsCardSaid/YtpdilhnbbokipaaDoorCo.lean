/- What package cookie's New, Put and All answer, for any jar of at most 20 cookies and any cookie with texts of at most 2^30 bytes. -/
import Derived.Test.YtpdilhnbbokipaaDoorCn
namespace Go.Proofs.YtpdilhnbbokipaaDoor
set_option maxRecDepth 8000
open Go.RowKit

theorem JarAt.below {w w' : World} {b : Nat} {l : List Ck.C} (h : JarAt w b l) (hb : Below w.heap.size w w') : JarAt w' b l := by
  obtain ⟨v, h1, h2⟩ := h
  exact ⟨v, (hb.block b (lt_of_blk h1)).trans h1, (h2.below hb).more hb.size⟩
theorem JarAt.lt {w : World} {b : Nat} {l : List Ck.C} (h : JarAt w b l) : b < w.heap.size := by
  obtain ⟨v, h1, _⟩ := h
  exact lt_of_blk h1
theorem JarAt.blk {w : World} {b : Nat} {l : List Ck.C} (h : JarAt w b l) : ∃ o, w.heap[b]? = some (.cells o 74 (0, 0)) := by
  obtain ⟨v, h1, _⟩ := h
  exact ⟨_, h1⟩

theorem new_any (w : World) :
    Calls Tryd.prog 25 #[] w fun e w' => e = .returned (.pointer (some ⟨w.heap.size, 0, none⟩)) ∧ JarAt w' w.heap.size [] ∧ Below w.heap.size w w' := by
  go_enter Tryd.func25, Tryd.ntmps25
  go_wp2
  go_ret
  exact ⟨rfl, ⟨.slice none 0 0, heap_alloc_new w _, none, 0, rfl, fun h => absurd h (by simp)⟩, (Below.refl _ _).alloc (Nat.le_refl _) _⟩

set_option maxHeartbeats 400000 in
theorem all_any (b : Nat) (l : List Ck.C) (w : World) (hj : JarAt w b l) (hl : l.length ≤ 1048576) :
    Calls Tryd.prog 29 #[.pointer (some ⟨b, 0, none⟩)] w fun e w' => ∃ v, e = .returned v ∧ CRow w.heap.size w' v l ∧ Below w.heap.size w w' := by
  obtain ⟨v, hbk, hr⟩ := hj
  have hC := clone_any v l w hr hl
  have c0 : w.cell? ⟨b, 0, none⟩ = some v := cell_of_row w b 0 _ _ _ hbk
  obtain ⟨A, cap, rfl, _⟩ := hr
  clear hbk
  go_enter Tryd.func29, Tryd.ntmps29
  go_wp2_with fail
  refine hC.mono ?_
  rintro e w1 ⟨v1, rfl, hrow, hb⟩
  go_wp2
  go_ret
  exact ⟨v1, rfl, hrow, hb⟩

/-- A slice of the call's own laid into the jar. -/
theorem jar_set {w0 w : World} {b base : Nat} {v : Value} (hbk : w0.heap[b]? = some (.cells #[v] 74 (0, 0))) (hb : Below base w0 w) (hlt : b < base) {v' : Value} {m : List Ck.C} (hrow : CRow base w v' m) :
    JarAt (w.setCell ⟨b, 0, none⟩ v') b m := by
  have h1 : w.heap[b]? = some (.cells #[v] 74 (0, 0)) := (hb.block b hlt).trans hbk
  refine ⟨v', ?_, ?_⟩
  · rw [heap_setCell_same w b 0 _ _ v' h1]
    rfl
  · have hne : v'.ownBlock ≠ some b := fun h => by
      have := (World.ownsRow.lt hrow b h).1
      omega
    have hrow' : CRow base (w.setCell ⟨b, 0, none⟩ v') v' m := ownsRow_setCell_other hrow (a := ⟨b, 0, none⟩) hne v'
    exact hrow'.reads

theorem but_set {w0 w : World} {b : Nat} (hb : Below w0.heap.size w0 w) (v' : Value) : But b w0 (w.setCell ⟨b, 0, none⟩ v') := ⟨w, hb, .inr ⟨v', rfl⟩⟩

set_option maxHeartbeats 1600000 in
theorem put_any (b : Nat) (l : List Ck.C) (c : Ck.C) (w : World) (hj : JarAt w b l) (hc : Small c) (hl : l.length ≤ 20) :
    Calls Tryd.prog 26 #[.pointer (some ⟨b, 0, none⟩), cV c] w fun e w' => e = .returned (.int .i64 (Ck.putE l c)) ∧ JarAt w' b (Ck.put l c) ∧ But b w w' := by
  obtain ⟨i0, hi0, hz0, hz1, hz2⟩ := info_parts Tryd.infoCookie
  have HJ := Lib.hid hj
  obtain ⟨v, hbk, hrd⟩ := hj
  have hblt := lt_of_blk hbk
  have b0 := Blk6.new w c
  have hb0 : Below w.heap.size w (w.alloc (.cells #[.string (S c.name), .string (S c.val), .string (S c.path), .int .i64 c.age, .bool c.sec, .bool c.http] 32)) := (Below.refl _ _).alloc (Nat.le_refl _) _
  have d0 := b0.c0
  have d1 := b0.c1
  have d2 := b0.c2
  have d3 := b0.c3
  have d4 := b0.c4
  have d5 := b0.c5
  go_enter Tryd.func26, Tryd.ntmps26
  go_wp2_with fail
  refine (right_any c _ hc).mono ?_
  rintro e w1 ⟨rfl, hb1⟩
  have b1 : Blk6 w1 w.heap.size c := b0.below hb1 (by simp)
  have hbw : Below w.heap.size w w1 := hb0.trans (hb1.mono (by simp))
  clear b0 hb0 hb1 d0 d1 d2 d3 d4 d5
  have hbk1 : w1.heap[b]? = some (.cells #[v] 74 (0, 0)) := (hbw.block b hblt).trans hbk
  have c0 : w1.cell? ⟨b, 0, none⟩ = some v := cell_of_row w1 b 0 _ _ _ hbk1
  have hrd1 : CReads w1 w1.heap.size v l := (hrd.below hbw).more hbw.size
  have h1lt := b1.lt
  cases hr : Ck.right c with
  | false =>
    have HE := Lib.hid (show Ck.putE l c = 1 by unfold Ck.putE; rw [hr]; rfl)
    have HP := Lib.hid (show Ck.put l c = l by unfold Ck.put; rw [hr]; rfl)
    clear hr
    go_wp2
    go_ret
    exact ⟨by rw [HE.out]; rfl, by rw [HP.out]; exact HJ.out.below hbw, But.of hbw⟩
  | true =>
    have HE := Lib.hid (show Ck.putE l c = if c.age = 0 then 0 else if (Ck.rest l c).length = 20 then 5 else 0 by unfold Ck.putE; rw [hr]; rfl)
    have HP := Lib.hid (show Ck.put l c = if c.age = 0 then Ck.rest l c else if (Ck.rest l c).length = 20 then l else Ck.rest l c ++ [c] by unfold Ck.put; rw [hr]; rfl)
    clear hr
    have hCl := clone_any v l w1 hrd1 (by omega)
    obtain ⟨A, cap, rfl, _⟩ := hrd
    go_wp2_with fail
    refine hCl.mono ?_
    rintro e w2 ⟨v2, rfl, hrow2, hb2⟩
    have b2 : Blk6 w2 w.heap.size c := b1.below hb2 h1lt
    have hDF := deleteFunc_any c w.heap.size v2 l w2 w1.heap.size b2 h1lt hb2.size hrow2 (by omega)
    clear hCl
    go_wp2_with fail
    refine hDF.mono ?_
    rintro e w3 ⟨v3, rfl, hrow3, hb3⟩
    have hb3' : Below w1.heap.size w1 w3 := hb2.trans hb3
    have b3 : Blk6 w3 w.heap.size c := b1.below hb3' h1lt
    have hrl := Ck.rest_len l c
    have HB3 := Lib.hid (hbw.trans (hb3'.mono hbw.size))
    have hb1lt : b < w1.heap.size := by omega
    have hbk3 : w3.heap[b]? = some (.cells #[.slice A l.length cap] 74 (0, 0)) := (hb3'.block b hb1lt).trans hbk1
    have j0 : w3.cell? ⟨b, 0, none⟩ = some (.slice A l.length cap) := cell_of_row w3 b 0 _ _ _ hbk3
    have jf : w3.frozen? ⟨b, 0, none⟩ = false := frozen_of_row w3 b 0 _ _ hbk3
    have d0 := b3.c0
    have d1 := b3.c1
    have d2 := b3.c2
    have d3 := b3.c3
    have d4 := b3.c4
    have d5 := b3.c5
    obtain ⟨A3, cap3, rfl⟩ := hrow3.form
    obtain ⟨m, hm⟩ : ∃ m, m = Ck.rest l c := ⟨_, rfl⟩
    rw [← hm] at hrow3 hrl HE HP
    rw [← hm]
    clear hm hDF hrow2 hb2 hb3 c0 hrd1 b2 b1
    by_cases hage : c.age = 0
    · have e0 : (c.age != 0) = false := by rw [hage]; rfl
      rw [if_pos hage] at HE HP
      have HJ2 := Lib.hid (jar_set hbk1 hb3' hb1lt hrow3)
      clear hage
      go_wp2
      go_ret
      exact ⟨by rw [HE.out]; rfl, by rw [HP.out]; exact HJ2.out, but_set HB3.out _⟩
    · have e0 : (c.age != 0) = true := bne_iff_ne.2 hage
      rw [if_neg hage] at HE HP
      clear hage
      by_cases hfull : m.length = 20
      · have hf : ((m.length : Int) == 20) = true := by rw [hfull]; rfl
        rw [if_pos hfull] at HE HP
        clear hfull
        go_wp2
        go_ret
        exact ⟨by rw [HE.out]; rfl, by rw [HP.out]; exact HJ.out.below HB3.out, But.of HB3.out⟩
      · have hf : ((m.length : Int) == 20) = false := by simp; omega
        rw [if_neg hfull] at HE HP
        clear hfull
        have hown : w3.ownsRow w1.heap.size 32 6 (.slice A3 m.length cap3) m.length (cells6 m) := hrow3
        have h3s := hb3'.size
        have h63 : m.length + 1 ≤ maxLen := by unfold maxLen; omega
        have HBK1 := Lib.hid hbk1
        have HBK3 := Lib.hid hbk3
        clear hbk1 hbk3
        go_wp2_with (at_builtin; refine wpList_append_lies _ rfl (.tmp 22) (.tmp 24) _ rfl w1.heap.size 32 i0 _ 6 64 Tryd.underlying42 hi0 hz0 hz1 hz2 rfl (by omega) (.slice A3 m.length cap3) m.length (cells6 m) rfl (hown.alloc _) ⟨w3.heap.size, 0, none⟩ 1 1 (cellsC c) rfl rfl (World.news_of_block (cs := #[.string (S c.name), .string (S c.val), .string (S c.path), .int .i64 c.age, .bool c.sec, .bool c.http]) (t := 32) (fr := (0, 0)) (heap_alloc_new w3 _)) (by simp [Value.oneCell', cellsC]) (by omega) (by omega) (by omega) (by simp; omega) (w3.heap.size + 1) (by simp) ?_; intro gg cp w4 hown4 hgrow hat hlt4; have hb4 : Below w1.heap.size w1 w4 := (hb3'.alloc h3s _).grown hgrow (by simp; omega) (fun q hq => (World.ownsRow.lt hown q hq).1); have k0 : w4.cell? ⟨b, 0, none⟩ = some (.slice A l.length cap) := cell_of_row w4 b 0 _ _ _ ((hb4.block b hb1lt).trans HBK1.out); have kf : w4.frozen? ⟨b, 0, none⟩ = false := frozen_of_row w4 b 0 _ _ ((hb4.block b hb1lt).trans HBK1.out))
        have hrow4 : CRow w1.heap.size w4 (.slice (some ⟨gg, 0, none⟩) (m.length + 1) cp) (m ++ [c]) := crow_snoc hown4
        go_ret
        exact ⟨by rw [HE.out]; rfl, by rw [HP.out]; exact jar_set HBK1.out hb4 hb1lt hrow4, but_set (hbw.trans (hb4.mono hbw.size)) _⟩
end Go.Proofs.YtpdilhnbbokipaaDoor
