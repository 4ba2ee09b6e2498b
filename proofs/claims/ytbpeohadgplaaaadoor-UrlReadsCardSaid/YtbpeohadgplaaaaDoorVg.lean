/- What package url's Dots answers, for any text of at most 2^30 bytes. -/
import Derived.Test.YtbpeohadgplaaaaDoorVf
namespace Go.Proofs.YtbpeohadgplaaaaDoor
set_option maxRecDepth 8000
open Go.RowKit

theorem cut_len (c : UInt8) (l : List UInt8) : (Pct.cutAt c l).1.length ≤ l.length ∧ (Pct.cutAt c l).2.1.length ≤ l.length := by
  rcases Pct.indexByte_cases l c with h | ⟨i, h⟩
  · rw [Pct.cutAt_miss l c h]; simp
  · obtain ⟨hi, he⟩ := Pct.cutAt_found l c i h
    rw [he]
    simp
    omega

theorem row_slice {base : Nat} {w : World} {v : Value} {l : List UInt8} (h : Row base w v l) : ∃ a cap, v = .slice a l.length cap ∧ l.length ≤ cap := by
  rcases h.2 with ⟨h1, h2⟩ | ⟨g, cap, cur, h1, _, _, h4, _⟩
  · exact ⟨none, 0, by rw [h1, h2], by omega⟩
  · exact ⟨_, cap, h1, h4⟩

theorem row_slash {base : Nat} {w : World} {v : Value} {l : List UInt8} (h : w.ownsRow base 5 1 v (l.length + 1) (l.map B ++ [.int .u8 47])) : Row base w v (l ++ [47]) := by
  unfold Row
  rw [List.length_append, List.map_append]
  exact h

def DotRel (t : List UInt8) (w : World) (g : Nat) (rest more kept seg : Value) (wx : World) : Prop :=
  ∃ (r : List UInt8) (m : Bool) (sg : List UInt8) (ks : List (List UInt8)), rest = .string (S r) ∧ more = .bool m ∧ seg = .string (S sg) ∧ Row w.heap.size wx kept (Url.joinS ks) ∧ DotInv t r m sg ks g ∧ r.length ≤ t.length ∧ Below w.heap.size w wx

set_option maxHeartbeats 1600000 in
theorem dots_slash (t : List UInt8) (w : World) (ht : t.length ≤ 1073741824) :
    Calls Tryd.prog 45 #[.string (S (47 :: t))] w (Told w (.returned (.string (S (Url.dots (47 :: t)))))) := by
  have hcp : ∀ w1 : World, Calls Tryd.prog 73 #[.string (S (47 :: t)), .string ⟨#[47]⟩] w1 fun e w' => e = .returned (.tuple #[.string (S t), .bool true]) ∧ w' = w1 := fun w1 => by
    have e1 : Lib.hasPrefix (47 :: t) [47] = true := by simp [Lib.hasPrefix, List.isPrefixOf]
    have e2 : Lib.trimPrefix (47 :: t) [47] = t := by unfold Lib.trimPrefix; rw [if_pos e1]; rfl
    have := cutPrefix_to (47 :: t) [47] w1
    rw [e1, e2] at this
    exact this
  have hS := S_list
  obtain ⟨i0, hi0, hz0, hz1, hz2⟩ := info_parts Tryd.infoByte
  have hby : i0.bytes * (S (47 :: t)).size ≤ 281474976710656 := by
    have hsz : (S (47 :: t)).size = t.length + 1 := rfl
    rw [hz2]; omega
  have h63 : (S (47 :: t)).size ≤ maxLen := by
    have hsz : (S (47 :: t)).size = t.length + 1 := rfl
    unfold maxLen; omega
  obtain ⟨pth, hpth⟩ : ∃ pth, S (47 :: t) = pth := ⟨_, rfl⟩
  rw [hpth] at hcp hby h63 ⊢
  clear hpth
  go_enter Tryd.func45, Tryd.ntmps45
  go_wp2
  go_step3
  go_wp2_with (first
    | (go_at_call 73; refine (hcp _).mono ?_; rintro e w1 ⟨rfl, rfl⟩)
    | (at_make; refine wpList_make_own _ rfl _ _ 77 rfl w1.heap.size 5 i0 (.int .u8 0) 1 Tryd.underlying77 hi0 hz0 hz1 _ _ _ pth.size rfl rfl rfl hby h63 (Nat.le_refl _) ?_; intro w2 hown1 hgrow1))
  go_step3
  go_wp2
  have hb1 : Below w1.heap.size w1 w2 := (Below.refl _ _).grown hgrow1 (Nat.le_refl _) (by simp)
  clear hgrow1 hcp hby h63
  go_loopg [3, 4, 5, 6] (Pct.split 47 t).length (fun g rest more kept seg wx => DotRel t w1 g rest more kept seg wx)
  case atStart => exact ⟨t, true, [], [], rfl, rfl, rfl, hown1, DotInv.start t, Nat.le_refl _, hb1⟩
  case round =>
    obtain ⟨r, m, sg, ks, rfl, rfl, rfl, hrow, hinv, hrl, hb⟩ := hrel
    clear hown1 hb1
    have hjl := hinv.room'
    have hbs := hb.size
    cases m with
    | false =>
      have HD := Lib.hid hinv.done
      clear hinv
      by_cases h1 : sg = [46]
      · subst h1
        have ed : Url.isDot [46] = true := rfl
        rw [ed, if_pos rfl] at HD
        clear ed
        obtain ⟨l, hl⟩ : ∃ l, Url.joinS ks = l := ⟨_, rfl⟩
        rw [hl] at hrow hjl HD
        clear hl
        have hrow' : wr.ownsRow w1.heap.size 5 1 u5 l.length (l.map B) := hrow
        have q1 : l.length + 3 ≤ maxLen := by unfold maxLen; omega
        go_wp2_with (at_builtin; refine wpList_append_lies _ rfl (.tmp 47) (.tmp 48) _ rfl w1.heap.size 5 i0 _ 1 1 Tryd.underlying77 hi0 hz0 hz1 hz2 rfl (by omega) u5 l.length (l.map B) rfl (hrow'.alloc _) ⟨wr.heap.size, 0, none⟩ 1 1 [.int .u8 47] rfl rfl (World.news_of_block (cs := #[.int .u8 47]) (t := 5) (fr := (0, 0)) (heap_alloc_new wr _)) (by simp [Value.oneCell']) (by omega) (by omega) (by omega) (by simp; omega) (wr.heap.size + 1) (by simp) ?_; intro gg cap w4 hown4 hgrow4 hat hlt; have hcv := row_string (row_slash hown4))
        rw [Exit.noGoto_ret]
        go_ret
        exact ⟨by rw [HD.out]; rfl, hb.trans (((Below.refl _ _).alloc hbs _).grown hgrow4 (by simp; omega) (fun k hk => (hrow'.lt k hk).1))⟩
      · have e1 : (sg == [46]) = false := beq_eq_false_iff_ne.2 h1
        by_cases h2 : sg = [46, 46]
        · subst h2
          clear h1
          have ed : Url.isDot [46, 46] = true := rfl
          rw [ed, if_pos rfl] at HD
          clear ed
          obtain ⟨l, hl⟩ : ∃ l, Url.joinS ks = l := ⟨_, rfl⟩
          rw [hl] at hrow hjl HD
          clear hl
          have hrow' : wr.ownsRow w1.heap.size 5 1 u5 l.length (l.map B) := hrow
          have q1 : l.length + 3 ≤ maxLen := by unfold maxLen; omega
          go_wp2_with (at_builtin; refine wpList_append_lies _ rfl (.tmp 47) (.tmp 48) _ rfl w1.heap.size 5 i0 _ 1 1 Tryd.underlying77 hi0 hz0 hz1 hz2 rfl (by omega) u5 l.length (l.map B) rfl (hrow'.alloc _) ⟨wr.heap.size, 0, none⟩ 1 1 [.int .u8 47] rfl rfl (World.news_of_block (cs := #[.int .u8 47]) (t := 5) (fr := (0, 0)) (heap_alloc_new wr _)) (by simp [Value.oneCell']) (by omega) (by omega) (by omega) (by simp; omega) (wr.heap.size + 1) (by simp) ?_; intro gg cap w4 hown4 hgrow4 hat hlt; have hcv := row_string (row_slash hown4))
          rw [Exit.noGoto_ret]
          go_ret
          exact ⟨by rw [HD.out]; rfl, hb.trans (((Below.refl _ _).alloc hbs _).grown hgrow4 (by simp; omega) (fun k hk => (hrow'.lt k hk).1))⟩
        · have e2 : (sg == [46, 46]) = false := beq_eq_false_iff_ne.2 h2
          have ed : Url.isDot sg = false := by unfold Url.isDot; rw [e1, e2]; rfl
          rw [ed, if_neg (by decide), List.append_nil] at HD
          clear ed h1 h2
          have hcv := row_string hrow
          go_wp2
          rw [Exit.noGoto_ret]
          go_ret
          exact ⟨by rw [HD.out]; rfl, hb⟩
    | true =>
      obtain ⟨hst, hg⟩ := hinv.step
      have hfree := hinv.free
      obtain ⟨hl1, hl2⟩ := cut_len 47 r
      have hcut : ∀ w2 : World, Calls Tryd.prog 42 #[.string (S r), .string ⟨#[47]⟩] w2 fun e w' => e = .returned (.tuple #[.string (S (Pct.cutAt 47 r).1), .string (S (Pct.cutAt 47 r).2.1), .bool (Pct.cutAt 47 r).2.2]) ∧ Below w2.heap.size w2 w' := fun w2 => strCut_to r 47 _ _ _ w2 (by omega) rfl
      generalize Pct.cutAt 47 r = x at hst hl1 hl2 hcut
      obtain ⟨p, r', f⟩ := x
      simp only at hst hl1 hl2 hcut
      have HST := Lib.hid hst
      have HF := Lib.hid hfree
      clear hst hinv hfree
      by_cases h1 : p = [46, 46]
      · subst h1
        have ek : Url.keep1 ks [46, 46] = ks.dropLast := rfl
        rw [ek] at HST
        clear ek
        obtain ⟨a, cap, rfl, hcl⟩ := row_slice hrow
        have hdl := join_len ks
        have HJ := Lib.hid (join_drop ks)
        obtain ⟨d, hd⟩ : ∃ d, (Url.joinS ks.dropLast).length = d := ⟨_, rfl⟩
        have HDD := Lib.hid hd
        have c1 : (0 : Int) ≤ (d : Int) := by omega
        have c2 : (d : Int) ≤ (cap : Int) := by omega
        clear hd
        go_wp2_with (first
          | (go_at_call 42; refine (hcut _).mono ?_; rintro e w3 ⟨rfl, hb3⟩; have hrow3 := hrow.below hb3)
          | (go_at_call 78; refine (lastIndex_any w1.heap.size _ (Url.joinS ks) 47 _ hrow3 (by omega)).mono ?_; rintro e w4 ⟨⟨ri, rfl, hri⟩, rfl⟩; have hmx := lastAt_join HF.out hri; rw [HDD.out] at hmx; clear hri))
        go_roundg (gk - 1)
        case measure => omega
        case rel => exact ⟨r', f, [46, 46], ks.dropLast, rfl, rfl, rfl, row_cut hrow3 d (by have := HDD.out; omega) _ (by rw [HJ.out, HDD.out]), HST.out, by omega, hb.trans (hb3.mono hbs)⟩
      · have e1 : (p == [46, 46]) = false := beq_eq_false_iff_ne.2 h1
        by_cases h2 : p = [46]
        · subst h2
          have ek : Url.keep1 ks [46] = ks := rfl
          rw [ek] at HST
          clear ek h1
          go_wp2_with (go_at_call 42; refine (hcut _).mono ?_; rintro e w3 ⟨rfl, hb3⟩; have hrow3 := hrow.below hb3)
          go_roundg (gk - 1)
          case measure => omega
          case rel => exact ⟨r', f, [46], ks, rfl, rfl, rfl, hrow3, HST.out, by omega, hb.trans (hb3.mono hbs)⟩
        · have e2 : (p == [46]) = false := beq_eq_false_iff_ne.2 h2
          have ek : Url.keep1 ks p = ks ++ [p] := by unfold Url.keep1; rw [if_neg h2, if_neg h1]
          rw [ek] at HST
          clear ek h1 h2
          have HJ := Lib.hid (join_snoc ks p)
          obtain ⟨l, hl⟩ : ∃ l, Url.joinS ks = l := ⟨_, rfl⟩
          rw [hl] at hrow hjl HJ
          clear hl
          have q1 : l.length + 3 ≤ maxLen := by unfold maxLen; omega
          have q2 : l.length + 1 + (S p).size ≤ maxLen := by
            have : (S p).size = p.length := rfl
            unfold maxLen; omega
          have q3 : l.length + 1 + (S p).size ≤ 140737488355328 := by
            have : (S p).size = p.length := rfl
            omega
          go_wp2_with (first
            | (go_at_call 42; refine (hcut _).mono ?_; rintro e w3 ⟨rfl, hb3⟩; have hrow3 : w3.ownsRow w1.heap.size 5 1 u5 l.length (l.map B) := hrow.below hb3; have hbs3 : w1.heap.size ≤ w3.heap.size := Nat.le_trans hbs hb3.size)
            | (at_builtin; refine wpList_append_lies _ rfl (.tmp 35) (.tmp 36) _ rfl w1.heap.size 5 i0 _ 1 1 Tryd.underlying77 hi0 hz0 hz1 hz2 rfl (by omega) u5 l.length (l.map B) rfl (hrow3.alloc _) ⟨w3.heap.size, 0, none⟩ 1 1 [.int .u8 47] rfl rfl (World.news_of_block (cs := #[.int .u8 47]) (t := 5) (fr := (0, 0)) (heap_alloc_new w3 _)) (by simp [Value.oneCell']) (by omega) (by omega) (by omega) (by simp; omega) (w3.heap.size + 1) (by simp) ?_; intro gg cap w4 hown4 hgrow4 hat hlt; have hb4 : Below w1.heap.size w3 w4 := ((Below.refl _ _).alloc hbs3 _).grown hgrow4 (by simp; omega) (fun k hk => (hrow3.lt k hk).1); have hbs4 : w1.heap.size ≤ w4.heap.size := Nat.le_trans hbs3 hb4.size)
            | (at_builtin; refine Lib.wpList_append_own_string _ rfl (.tmp 38) (.tmp 39) 77 9 rfl w1.heap.size 5 i0 Tryd.underlying77 Tryd.underlying9 hi0 hz0 hz1 hz2 (.slice (some ⟨gg, 0, none⟩) (l.length + 1) cap) (l.length + 1) (l.map B ++ [.int .u8 47]) rfl hown4 (S p) rfl q2 q3 hbs4 ?_; intro v5 w5 hown5 hgrow5 hnil5))
          have hb5 : Below w1.heap.size w4 w5 := (Below.refl _ _).grown hgrow5 hbs4 (fun k hk => (hown4.lt k hk).1)
          go_roundg (gk - 1)
          case measure => omega
          case rel =>
            refine ⟨r', f, p, ks ++ [p], rfl, rfl, rfl, ?_, HST.out, by omega, ((hb.trans (hb3.mono hbs)).trans hb4).trans hb5⟩
            rw [HJ.out]
            unfold Row
            have z : ((l ++ [47]) ++ p).length = l.length + 1 + (S p).size := by
              have : (S p).size = p.length := rfl
              simp
              omega
            rw [z, List.map_append, List.map_append]
            exact hown5
end Go.Proofs.YtbpeohadgplaaaaDoor
