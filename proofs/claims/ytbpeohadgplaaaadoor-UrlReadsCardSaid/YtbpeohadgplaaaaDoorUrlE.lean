/- What the document's own Dots answers, for any path of at most 2^20 bytes. -/
import Derived.Test.YtbpeohadgplaaaaDoorUrlD
import Derived.Test.YtbpeohadgplaaaaDoorRefD
namespace Go.Proofs.YtbpeohadgplaaaaDoor
set_option maxRecDepth 8000
open Go.RowKit

theorem refCut_slash (s : ByteArray) (w : World) (hs : s.size ≤ 1048576) :
    Calls Tryd.prog 80 #[.string s, .int .u8 47] w fun e w' => ∃ v, e = .returned v ∧ SRow w.heap.size w' v (Pct.split 47 s.data.toList) ∧ Below w.heap.size w w' := refCut_any s 47 w hs

theorem empty_of (s : ByteArray) (l : List UInt8) (h : s.data.toList = l) : s.toList.isEmpty = l.isEmpty := by
  have e : s = S l := by rw [← h, S_eq]
  rw [e, S_empty]

theorem S_list (x : List UInt8) : (S x).toList = x := by rw [Lib.toList_data]; rfl
theorem keep_two0 {acc : List (List UInt8)} {x : List UInt8} (h : x = [46, 46]) (h0 : acc.length = 0) : Url.keep1 acc x = acc := by
  obtain rfl := List.length_eq_zero_iff.1 h0
  rw [h]
  rfl
theorem keep_two {acc : List (List UInt8)} {x : List UInt8} (h : x = [46, 46]) : Url.keep1 acc x = acc.dropLast := by
  rw [h]
  rfl
theorem keep_one {acc : List (List UInt8)} {x : List UInt8} (h : x = [46]) : Url.keep1 acc x = acc := by
  rw [h]
  rfl
theorem keep_else {acc : List (List UInt8)} {x : List UInt8} (h1 : x ≠ [46]) (h2 : x ≠ [46, 46]) : Url.keep1 acc x = acc ++ [x] := by
  unfold Url.keep1
  rw [if_neg h1, if_neg h2]
theorem srow_cap {w : World} {base g n cap : Nat} {t : TypeId} {xs : List Value} (h : w.ownsRow base t 1 (.slice (some ⟨g, 0, none⟩) n cap) n xs) : n ≤ cap := by
  rcases h.2 with ⟨h1, _⟩ | ⟨g', cap', cur, hv, _, _, hc, _⟩
  · cases h1
  · injection hv with _ _ e
    omega
theorem srow_fresh {wr : World} {base : Nat} (hb : base ≤ wr.heap.size) : (wr.alloc (.cells #[] 9)).ownsRow base 9 1 (.slice (some ⟨wr.heap.size, 0, none⟩) 0 0) 0 [] :=
  ⟨rfl, .inr ⟨wr.heap.size, 0, #[], rfl, hb, heap_alloc_new wr _, Nat.le_refl _, Nat.zero_le _, rfl, rfl⟩⟩
theorem srow_news {w : World} {base g n cap : Nat} {acc : List (List UInt8)} (h : w.ownsRow base 9 1 (.slice (some ⟨g, 0, none⟩) n cap) n (strsV acc)) : ∀ j u, (strsV acc.dropLast)[j]? = some u → w.cell? ((⟨g, 0, none⟩ : Addr).add j) = some u := by
  intro j u hu
  refine World.ownsRow.cells h (g := g) rfl j u ?_
  unfold strsV at hu ⊢
  rw [List.getElem?_map] at hu ⊢
  cases hj : acc.dropLast[j]? with
  | none => rw [hj] at hu; cases hu
  | some y =>
    rw [hj] at hu
    have : acc[j]? = some y := by
      rw [List.dropLast_eq_take, List.getElem?_take] at hj
      split at hj
      · exact hj
      · cases hj
    rw [this]
    exact hu
theorem strs_one (ps : List (List UInt8)) : ∀ u ∈ strsV ps, u.oneCell' = true := by
  intro u hu
  unfold strsV at hu
  rw [List.mem_map] at hu
  obtain ⟨y, _, rfl⟩ := hu
  rfl

theorem own_shape {w : World} {base : Nat} {e : TypeId} {v : Value} {n : Nat} {xs : List Value} (h : w.ownsRow base e 1 v n xs) : ∃ A cap, v = .slice A n cap := by
  rcases h.2 with ⟨h1, h2⟩ | ⟨g, cap, cur, hv, _⟩
  · exact ⟨none, 0, by rw [h1, h2]⟩
  · exact ⟨_, _, hv⟩
theorem srow_drop {w : World} {base : Nat} {A : Option Addr} {cap : Nat} {acc : List (List UInt8)} (h : w.ownsRow base 9 1 (.slice A (0 + (acc.length - 1)) cap) (0 + (acc.length - 1)) ([] ++ strsV acc.dropLast)) :
    Value.slice A (0 + (acc.length - 1)) cap = .slice A acc.dropLast.length cap ∧ SRow base w (.slice A acc.dropLast.length cap) acc.dropLast := by
  have e : 0 + (acc.length - 1) = acc.dropLast.length := by simp
  rw [e] at h ⊢
  exact ⟨rfl, h⟩

theorem last_get (ps : List (List UInt8)) (h : 0 < ps.length) : ps[ps.length - 1]'(by omega) = Url.lastD ps := by
  unfold Url.lastD
  rw [List.getLast?_eq_getElem?, List.getElem?_eq_getElem (by omega)]
  rfl

theorem tail_yes {ps acc : List (List UInt8)} {x : List UInt8} (hx : x = Url.lastD ps) (h : x = [46] ∨ x = [46, 46] ∨ acc.length = 0) : Url.tailOf ps acc = [47] := by
  unfold Url.tailOf
  rw [← hx, if_pos]
  rcases h with h | h | h
  · rw [h]; rfl
  · rw [h]; rfl
  · obtain rfl := List.length_eq_zero_iff.1 h
    simp
theorem tail_no {ps acc : List (List UInt8)} {x : List UInt8} (hx : x = Url.lastD ps) (h1 : x ≠ [46]) (h2 : x ≠ [46, 46]) (h3 : acc.length ≠ 0) : Url.tailOf ps acc = [] := by
  unfold Url.tailOf
  rw [← hx, if_neg]
  unfold Url.isDot
  cases acc with
  | nil => exact absurd rfl h3
  | cons _ _ => simp [h1, h2]

set_option maxHeartbeats 800000 in
theorem refDots_slash (s : ByteArray) (r : List UInt8) (w : World) (hs : s.size ≤ 1048576) (hl : s.data.toList = 47 :: r) :
    Calls Tryd.prog 49 #[.string s] w (Told w (.returned (.string (S (Url.dots s.data.toList))))) := by
  obtain ⟨i0, hi0, hz0, hz1, hz2⟩ := info_parts Tryd.infoString
  have h63 : (1048580 : Nat) ≤ maxLen := by unfold maxLen; omega
  have hsl : s.data.toList.length = s.size := by simp
  have hE : s.toList.isEmpty = false := by rw [empty_of s _ hl]; rfl
  have hpos : 0 < s.size := by rw [← hsl, hl]; simp
  have h47 : s[0] = 47 := by
    have : s.data.toList[0]'(by rw [hl]; simp) = 47 := by simp [hl]
    exact this
  have hc' : ((s[0].toNat : Int) != 47) = false := by rw [h47]; rfl
  have hx : s.extract 1 s.size = S r := by rw [extract_rest, hl]; rfl
  have hrl : r.length ≤ 1048575 := by rw [hl] at hsl; simp at hsl; omega
  have HL := Lib.hid hl
  clear hl h47 hsl
  go_enter Tryd.func49, Tryd.ntmps49
  go_wp2_with fail
  refine (refCut_slash (S r) w (by show r.length ≤ _; omega)).mono ?_
  rintro e w1 ⟨v, rfl, hrow, hb1⟩
  rw [S_toList] at hrow
  obtain ⟨ps, hps⟩ : ∃ ps, ps = Pct.split 47 r := ⟨_, rfl⟩
  rw [← hps] at hrow
  obtain ⟨g, pcap, rfl, hgl, hcell⟩ := hrow.open (by rw [hps]; exact Pct.split_ne 47 _)
  have hpl : ps.length ≤ 1048576 := by
    rw [hps]
    have := split_count 47 r
    omega
  have HPS := Lib.hid hps
  clear hps hrow
  go_wp2
  go_loopw [4, 5] (fun v i wr => ∃ (k : Nat) (acc : List (List UInt8)) (A : Option Addr) (cap : Nat), k ≤ ps.length ∧ i = .int .i64 k ∧ v = .slice A acc.length cap ∧ SRow w1.heap.size wr (.slice A acc.length cap) acc ∧ acc.length ≤ k ∧ Below w1.heap.size w1 wr ∧ acc = (ps.take k).foldl Url.keep1 []) (fun _ i _ => ps.length - (intOf i).toNat)
  case atStart => exact ⟨0, [], none, 0, Nat.zero_le _, rfl, rfl, World.ownsRow_nil _ _ _ _, by simp, Below.refl _ _, by simp⟩
  case round =>
    obtain ⟨k, acc, A, cap, hk, rfl, rfl, hrow, hal, hb, hacc⟩ := hrel
    have HACC := Lib.hid hacc
    clear hacc
    have hbs := hb.size
    by_cases hlt : k < ps.length
    · have HDR := Lib.hid (show (ps.take (k + 1)).foldl Url.keep1 [] = Url.keep1 acc ps[k] by rw [List.take_succ_eq_append_getElem hlt, List.foldl_append, ← HACC.out]; rfl)
      have c0' := hcell k hlt
      obtain ⟨x, hx⟩ : ∃ x, x = ps[k] := ⟨_, rfl⟩
      rw [← hx] at c0' HDR
      have HX := Lib.hid hx
      clear hx
      have c0 : wr.cell? ⟨g, k, none⟩ = some (.string (S x)) := (hb.cell (p := ⟨g, k, none⟩) hgl).trans c0'
      have i0' : (0 : Int) ≤ (k : Int) := by omega
      have i1' : (k : Int) < (ps.length : Int) := by omega
      have hxt : (S x).toList = x := S_list x
      have hown : wr.ownsRow w1.heap.size 9 1 (.slice A acc.length cap) acc.length (strsV acc) := hrow
      by_cases h2 : x = [46, 46]
      · have hD : (S x).toList = [46, 46] := hxt.trans h2
        have H2 := Lib.hid h2
        clear h2 hxt
        by_cases ha0 : acc.length = 0
        · have HK := Lib.hid (keep_two0 (acc := acc) (x := x) H2.out ha0)
          go_wp2
          go_roundw
          case rel => exact ⟨k + 1, acc, A, cap, by omega, by go_num, rfl, hrow, by omega, hb, by rw [HDR.out, HK.out]⟩
          case measure => simp [intOf]; omega
        · obtain ⟨g2, cap2, hv2, hg2, hg2l⟩ := hown.form (by omega)
          injection hv2 with hA hlen hcap
          subst hA
          clear hlen hcap
          have hcapl := srow_cap hown
          have HK := Lib.hid (keep_two (acc := acc) (x := x) H2.out)
          have i2' : (acc.length : Int) - 1 ≤ (cap : Int) := by omega
          have i3' : (1 : Int) ≤ (acc.length : Int) := by omega
          go_wp2_with (at_builtin; refine wpList_append_own_at _ rfl (.tmp 36) (.tmp 41) _ rfl w1.heap.size 9 i0 _ 1 16 Tryd.underlying93 hi0 hz0 hz1 hz2 rfl (by omega) (.slice (some ⟨wr.heap.size, 0, none⟩) 0 0) 0 [] rfl (srow_fresh hbs) ⟨g2, 0, none⟩ (acc.length - 1) cap (strsV acc.dropLast) rfl (by simp [strsV]) (srow_news (hown.alloc _)) (strs_one _) (by omega) (by omega) (by simp; omega) ?_; intro v' w2 hown2 hgrow2 hnil2 hat2; have hb2 : Below w1.heap.size w1 w2 := ((hb.alloc hbs _).grown hgrow2 (by simp; omega) (fun k hk => by simp [Value.ownBlock] at hk; omega)); have c2 : w2.cell? ⟨g, k, none⟩ = some (.string (S x)) := (hb2.cell (p := ⟨g, k, none⟩) hgl).trans c0')
          obtain ⟨A3, cap3, rfl⟩ := own_shape hown2
          have HR := Lib.hid (srow_drop (acc := acc) hown2)
          go_roundw
          case rel =>
            obtain ⟨hlen3, hrow3⟩ := HR.out
            exact ⟨k + 1, acc.dropLast, A3, cap3, by omega, by go_num, hlen3, hrow3, by simp; omega, hb2, by rw [HDR.out, HK.out]⟩
          case measure => simp [intOf]; omega
      · have hD : ¬ (S x).toList = [46, 46] := fun h => h2 (hxt.symm.trans h)
        have H2 := Lib.hid h2
        clear h2
        by_cases h1 : x = [46]
        · have hD1 : (S x).toList = [46] := hxt.trans h1
          have H1 := Lib.hid h1
          clear h1 hxt hD
          have HK := Lib.hid (keep_one (acc := acc) (x := x) H1.out)
          go_wp2
          go_roundw
          case rel => exact ⟨k + 1, acc, A, cap, by omega, by go_num, rfl, hrow, by omega, hb, by rw [HDR.out, HK.out]⟩
          case measure => simp [intOf]; omega
        · have hD1 : ¬ (S x).toList = [46] := fun h => h1 (hxt.symm.trans h)
          have HK := Lib.hid (keep_else (acc := acc) (x := x) h1 H2.out)
          have hB1 : ((S x).toList == [46]) = false := beq_eq_false_iff_ne.2 hD1
          have hB2 : ((S x).toList == [46, 46]) = false := beq_eq_false_iff_ne.2 hD
          clear h1 hxt
          go_wp2_with (at_builtin; refine wpList_append_lies _ rfl (.tmp 55) (.tmp 60) _ rfl w1.heap.size 9 i0 _ 1 16 Tryd.underlying93 hi0 hz0 hz1 hz2 rfl (by omega) _ acc.length (strsV acc) rfl (hown.alloc _) ⟨wr.heap.size, 0, none⟩ 1 1 [.string (S x)] rfl rfl (World.news_of_block (cs := #[.string (S x)]) (t := 9) (fr := (0, 0)) (heap_alloc_new wr _)) (by simp [Value.oneCell']) (by omega) (by omega) (by omega) (by simp; omega) (wr.heap.size + 1) (by simp) ?_; intro gg cap1 w2 hown2 hgrow2 hat2 hlt2)
          have hb2 : Below w1.heap.size w1 w2 := (hb.alloc hbs _).grown hgrow2 (by simp; omega) (fun k hk => (hown.lt k hk).1)
          go_roundw
          case rel => exact ⟨k + 1, acc ++ [x], some ⟨gg, 0, none⟩, cap1, by omega, by go_num, by simp, by simpa using srow_snoc hown2, by simp; omega, hb2, by rw [HDR.out, HK.out]⟩
          case measure => simp [intOf]; omega
    · have hkept : acc = Url.keptOf ps := by
        have := HACC.out
        rw [List.take_of_length_le (by omega)] at this
        exact this
      have HKEPT := Lib.hid hkept
      clear hkept
      have HPL := Lib.hid (show ∀ p ∈ acc, p.length ≤ 1048576 from fun p hp => by
        rw [HKEPT.out] at hp
        have h1 := (Url.kept_mem hp).1
        rw [HPS.out] at h1
        have := split_piece 47 r p h1
        omega)
      go_wp2
      go_loop [6, 7] (fun v i => ∃ (j : Nat) (o : List UInt8), j ≤ acc.length ∧ i = .int .i64 j ∧ v = .string (S o) ∧ o.length ≤ 1048577 * j ∧ o = Url.joinS (acc.take j)) (fun _ i => acc.length - (intOf i).toNat)
      case atStart => exact ⟨0, [], Nat.zero_le _, rfl, rfl, by simp, by simp [Url.joinS]⟩
      case round =>
        obtain ⟨j, o, hj, rfl, rfl, hol, ho⟩ := hrel
        have HO := Lib.hid ho
        clear ho
        by_cases hjl : j < acc.length
        · obtain ⟨g2, cap2, hv2, hg2l, hcell2⟩ := hrow.open (by intro h; rw [h] at hjl; simp at hjl)
          injection hv2 with hA hlen hcap
          subst hA
          clear hlen hcap
          have c2 := hcell2 j hjl
          have HN := Lib.hid (show Url.joinS (acc.take (j + 1)) = o ++ [47] ++ acc[j] by rw [List.take_succ_eq_append_getElem hjl, Url.joinS_append, ← HO.out, Url.joinS_cons]; simp [Url.joinS])
          have hyl := HPL.out acc[j] (List.getElem_mem hjl)
          obtain ⟨y, hy⟩ : ∃ y, y = acc[j] := ⟨_, rfl⟩
          rw [← hy] at c2 HN hyl
          clear hy
          have i0' : (0 : Int) ≤ (j : Int) := by omega
          have i1' : (j : Int) < (acc.length : Int) := by omega
          have a1 : ∀ w' : World, (Op.stringOp .add (S o) ⟨#[47]⟩).run Tryd.prog w' = .ok (.string (S (o ++ [47]))) w' := fun w' => run_add_S' w' o [47] (by simp; omega)
          obtain ⟨o1, ho1⟩ : ∃ o1, o1 = o ++ [47] := ⟨_, rfl⟩
          have ho1l : o1.length = o.length + 1 := by rw [ho1]; simp
          rw [← ho1] at a1 HN
          clear ho1
          have a2 := fun w' : World => run_add_S' w' o1 y (by omega)
          clear hcell2
          go_wp2
          go_round
          case rel => exact ⟨j + 1, o1 ++ y, by omega, by go_num, rfl, by simp; omega, HN.out.symm⟩
          case measure => simp [intOf]; omega
        · have HO2 := Lib.hid (show o = Url.joinS acc by have := HO.out; rwa [List.take_of_length_le (by omega)] at this)
          have HT := Lib.hid (show Url.dots s.data.toList = o ++ Url.tailOf ps acc by
            rw [HL.out, HO2.out, HKEPT.out, HPS.out]
            simp [Url.dots])
          have hps0 : 0 < ps.length := by
            rw [HPS.out]
            exact List.length_pos_iff.2 (Pct.split_ne 47 r)
          have c3' := hcell (ps.length - 1) (by omega)
          obtain ⟨x, hx⟩ : ∃ x, x = Url.lastD ps := ⟨_, rfl⟩
          rw [last_get ps hps0, ← hx] at c3'
          have c3 : wr.cell? ⟨g, ps.length - 1, none⟩ = some (.string (S x)) := (hb.cell (p := ⟨g, ps.length - 1, none⟩) hgl).trans c3'
          have HX := Lib.hid hx
          clear hx c3' hcell
          have a1 : ∀ w' : World, (Op.stringOp .add (S o) ⟨#[47]⟩).run Tryd.prog w' = .ok (.string (S (o ++ [47]))) w' := fun w' => run_add_S' w' o [47] (by simp; omega)
          have i0' : (1 : Int) ≤ (ps.length : Int) := by omega
          have hxt : (S x).toList = x := S_list x
          have hball : Below w.heap.size w wr := hb1.trans (hb.mono hb1.size)
          by_cases h1 : x = [46]
          · have hD1 : (S x).toList = [46] := hxt.trans h1
            have HY := Lib.hid (tail_yes (acc := acc) HX.out (.inl h1))
            clear h1 hxt
            go_wp2
            go_ret
            exact ⟨ret_string (by rw [HT.out, HY.out]), hball⟩
          · have hD1 : ¬ (S x).toList = [46] := fun h => h1 (hxt.symm.trans h)
            have hB1 : ((S x).toList == [46]) = false := beq_eq_false_iff_ne.2 hD1
            by_cases h2 : x = [46, 46]
            · have hD2 : (S x).toList = [46, 46] := hxt.trans h2
              have HY := Lib.hid (tail_yes (acc := acc) HX.out (.inr (.inl h2)))
              clear h1 h2 hxt hD1
              go_wp2
              go_ret
              exact ⟨ret_string (by rw [HT.out, HY.out]), hball⟩
            · have hD2 : ¬ (S x).toList = [46, 46] := fun h => h2 (hxt.symm.trans h)
              have hB2 : ((S x).toList == [46, 46]) = false := beq_eq_false_iff_ne.2 hD2
              by_cases h3 : acc.length = 0
              · have h3' : ((acc.length : Int) == 0) = true := by rw [h3]; rfl
                have HY := Lib.hid (tail_yes (acc := acc) HX.out (.inr (.inr h3)))
                clear h1 h2 h3 hxt
                go_wp2
                go_ret
                exact ⟨ret_string (by rw [HT.out, HY.out]), hball⟩
              · have h3' : ((acc.length : Int) == 0) = false := beq_eq_false_iff_ne.2 (by omega)
                have HY := Lib.hid (tail_no (acc := acc) HX.out h1 h2 h3)
                clear h1 h2 h3 hxt
                go_wp2
                go_ret
                exact ⟨ret_string (by rw [HT.out, HY.out, List.append_nil]), hball⟩

theorem refDots_any (s : ByteArray) (w : World) (hs : s.size ≤ 1048576) :
    Calls Tryd.prog 49 #[.string s] w (Told w (.returned (.string (S (Url.dots s.data.toList))))) := by
  match hl : s.data.toList with
  | [] =>
    have hE : s.toList.isEmpty = true := by rw [empty_of s _ hl]; rfl
    have e : s = S [] := by rw [← hl, S_eq]
    have HE := Lib.hid e
    clear e hl
    go_enter Tryd.func49, Tryd.ntmps49
    go_wp2
    go_ret
    refine ⟨?_, Below.refl _ _⟩
    show Ending.returned (.string s) = _
    rw [HE.out]
    rfl
  | c :: r =>
    by_cases hc : c = 47
    · have := refDots_slash s r w hs (by rw [hl, hc])
      rwa [hl] at this
    · have hE : s.toList.isEmpty = false := by rw [empty_of s _ hl]; rfl
      have hsl : s.data.toList.length = s.size := by simp
      have hpos : 0 < s.size := by rw [← hsl, hl]; simp
      have h0 : s[0] = c := by
        have : s.data.toList[0]'(by rw [hl]; simp) = c := by simp [hl]
        exact this
      have hc' : ((s[0].toNat : Int) != 47) = true := by
        rw [h0]
        have : c.toNat ≠ 47 := fun h => hc (Pct.u8_eq h)
        simp; omega
      have e : s = S (c :: r) := by rw [← hl, S_eq]
      have HE := Lib.hid e
      have HC := Lib.hid hc
      clear e h0 hl hsl hc
      go_enter Tryd.func49, Tryd.ntmps49
      go_wp2
      go_ret
      refine ⟨?_, Below.refl _ _⟩
      have : Url.dots (c :: r) = c :: r := by unfold Url.dots; simp only; rw [if_neg HC.out]
      rw [this, ← HE.out]
      rfl
end Go.Proofs.YtbpeohadgplaaaaDoor
