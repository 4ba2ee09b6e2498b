/- What the document's own Form answers, for any text of at most 1000 bytes. -/
import Derived.Test.YtbpeohadgplaaaaDoorRefE
import Derived.Test.YtbpeohadgplaaaaDoorRefDec
namespace Go.Proofs.YtbpeohadgplaaaaDoor
set_option maxRecDepth 8000
open Go.RowKit

theorem refD_some (l x : List UInt8) (w : World) (hl : l.length ≤ 1073741824) (h : Pct.dec true l = some x) :
    Calls Tryd.prog 89 #[.string (S l), .bool true] w fun e w' => e = .returned (.tuple #[.string (S x), .int .i64 0]) ∧ Below w.heap.size w w' :=
  (refDecode_any (S l) true w hl).mono fun e w' ⟨he, hb⟩ => ⟨by rw [he, S_toList, h]; rfl, hb⟩
theorem refD_none (l : List UInt8) (w : World) (hl : l.length ≤ 1073741824) (h : Pct.dec true l = none) :
    Calls Tryd.prog 89 #[.string (S l), .bool true] w fun e w' => e = .returned (.tuple #[.string ⟨#[]⟩, .int .i64 11]) ∧ Below w.heap.size w w' :=
  (refDecode_any (S l) true w hl).mono fun e w' ⟨he, hb⟩ => ⟨by rw [he, S_toList, h]; rfl, hb⟩
theorem refCut_amp (s : ByteArray) (w : World) (hs : s.size ≤ 1048576) :
    Calls Tryd.prog 80 #[.string s, .int .u8 38] w fun e w' => ∃ v, e = .returned v ∧ SRow w.heap.size w' v (Pct.split 38 s.data.toList) ∧ Below w.heap.size w w' := refCut_any s 38 w hs

theorem cut_miss_of {x : List UInt8} (h : ∀ (i : Nat) (hi : i < x.length), x[i] ≠ 61) : Pct.cutAt 61 x = (x, [], false) :=
  Pct.cutAt_none 61 x (fun y hy => by
    obtain ⟨i, hi, rfl⟩ := List.getElem_of_mem hy
    exact h i hi)
theorem cut_hit_of {x : List UInt8} {j : Nat} (hj : j < x.length) (hc : x[j] = 61) (h : ∀ (i : Nat) (hi : i < x.length), i < j → x[i] ≠ 61) : Pct.cutAt 61 x = (x.take j, x.drop (j + 1), true) := by
  have e : x = x.take j ++ 61 :: x.drop (j + 1) := by
    have h1 : x = x.take j ++ x.drop j := (List.take_append_drop _ _).symm
    rw [List.drop_eq_getElem_cons hj, hc] at h1
    exact h1
  have := Pct.cutAt_first 61 (x.drop (j + 1)) (x.take j) (fun y hy => by
    obtain ⟨i, hi, rfl⟩ := List.getElem_of_mem hy
    rw [List.length_take] at hi
    rw [List.getElem_take]
    exact h i (by omega) (by omega))
  rw [← e] at this
  exact this

/-- The form so far. -/
def FGo (l : List UInt8) (acc : List Pct.PairL) (ps : List (List UInt8)) : Prop := Pct.form l = Pct.formGo acc ps

theorem rf_err {w w1 w2 : World} {r : Except Nat (List Pct.PairL)} {n : Nat} (h : r = .error n) (hb : Below w.heap.size w w1) (hb2 : Below w1.heap.size w1 w2) :
    FormPost w r (.returned (.tuple #[.slice none 0 0, .int .i64 n])) w2 := formPost_err h (hb.trans (hb2.mono hb.size))

set_option maxHeartbeats 2000000 in
set_option maxRecDepth 100000 in
theorem refForm_any (s : ByteArray) (w : World) (hs : s.size ≤ 1000) :
    Calls Tryd.prog 64 #[.string s] w (FormPost w (Pct.form s.data.toList)) := by
  obtain ⟨i0, hi0, hz0, hz1, hz2⟩ := info_parts Tryd.infoPair
  have h63 : (33 : Nat) ≤ maxLen := by unfold maxLen; omega
  obtain ⟨l, hl⟩ : ∃ l, l = s.data.toList := ⟨_, rfl⟩
  rw [← hl]
  have HL := Lib.hid hl
  clear hl
  go_enter Tryd.func64, Tryd.ntmps64
  go_wp2_with fail
  refine (refCut_amp s w (by omega)).mono ?_
  rintro e w1 ⟨v, rfl, hrow, hb1⟩
  obtain ⟨ps, hps⟩ : ∃ ps, ps = Pct.split 38 s.data.toList := ⟨_, rfl⟩
  rw [← hps] at hrow
  obtain ⟨g, pcap, rfl, hgl, hcell⟩ := hrow.open (by rw [hps]; exact Pct.split_ne 38 _)
  have HSTART := Lib.hid (show FGo l [] ps by unfold FGo Pct.form; rw [HL.out, hps])
  have hpl : ps.length ≤ 1001 := by
    rw [hps]
    have := split_count 38 s.data.toList
    have e : s.data.toList.length = s.size := by simp
    omega
  have HLEN := Lib.hid (show ∀ k (hk : k < ps.length), ps[k].length ≤ 1000 from fun k hk => by
    have := split_piece 38 s.data.toList ps[k] (by rw [← hps]; exact List.getElem_mem hk)
    have e : s.data.toList.length = s.size := by simp
    omega)
  clear hps hrow
  go_wp2
  go_loopw [4, 6] (fun out i wr => ∃ (k : Nat) (acc : List Pct.PairL) (A : Option Addr) (cap : Nat), k ≤ ps.length ∧ i = .int .i64 k ∧ out = .slice A acc.length cap ∧ PRow w1.heap.size wr (.slice A acc.length cap) acc ∧ acc.length ≤ 32 ∧ Below w1.heap.size w1 wr ∧ FGo l acc (ps.drop k)) (fun _ i _ => ps.length - (intOf i).toNat)
  case atStart => exact ⟨0, [], none, 0, Nat.zero_le _, rfl, rfl, World.ownsRow_nil _ _ _ _, by simp, Below.refl _ _, HSTART.out⟩
  case round =>
    obtain ⟨k, acc, A, cap, hk, rfl, rfl, hrow, hal, hb, hgo⟩ := hrel
    have HGO := Lib.hid hgo
    clear hgo
    have hbs := hb.size
    by_cases hlt : k < ps.length
    · have HDR := Lib.hid (List.drop_eq_getElem_cons hlt)
      have c0' := hcell k hlt
      have hxl := HLEN.out k hlt
      obtain ⟨x, hx⟩ : ∃ x, x = ps[k] := ⟨_, rfl⟩
      rw [← hx] at c0' hxl
      have HX := Lib.hid hx
      clear hx
      have c0 : wr.cell? ⟨g, k, none⟩ = some (.string (S x)) := (hb.cell (p := ⟨g, k, none⟩) hgl).trans c0'
      clear c0'
      have HGO2 := Lib.hid (show Pct.form l = Pct.formGo acc (x :: ps.drop (k + 1)) by have := HGO.out; unfold FGo at this; rw [HDR.out, ← HX.out] at this; exact this)
      have i0' : (0 : Int) ≤ (k : Int) := by omega
      have i1' : (k : Int) < (ps.length : Int) := by omega
      have he := S_empty x
      have HE := Lib.hid he
      clear he
      by_cases hx0 : x = []
      · have hE : (S x).toList.isEmpty = true := by rw [HE.out, hx0]; rfl
        have H0 := Lib.hid hx0
        clear hx0
        go_wp2
        go_roundw
        case rel => exact ⟨k + 1, acc, A, cap, by omega, by go_num, rfl, hrow, hal, hb, by have := HGO2.out; rw [H0.out, Pct.formGo_empty] at this; exact this⟩
        case measure => simp [intOf]; omega
      · have hE : (S x).toList.isEmpty = false := by rw [HE.out]; cases x with | nil => exact absurd rfl hx0 | cons _ _ => rfl
        have H0 := Lib.hid hx0
        clear hx0
        by_cases hfull : acc.length = 32
        · have hf' : ((acc.length : Int) == 32) = true := by rw [hfull]; rfl
          have HF := Lib.hid hfull
          clear hfull
          go_wp2
          go_ret2
          exact rf_err (HGO2.out.trans (Pct.formGo_full acc x _ H0.out HF.out)) hb1 hb
        · have hf' : ((acc.length : Int) == 32) = false := by simp; omega
          have HF := Lib.hid hfull
          clear hfull
          have hxs : (S x).size = x.length := rfl
          obtain ⟨X, hX⟩ : ∃ X, X = S x := ⟨_, rfl⟩
          rw [← hX] at c0 hE hxs
          have hXs : X.size ≤ 1000 := by omega
          have HXX := Lib.hid hX
          have HXS := Lib.hid hxs
          clear hX hxs
          go_wp2
          go_loop [8] (fun jv => ∃ j : Nat, j ≤ X.size ∧ jv = .int .i64 j ∧ ∀ (i : Nat) (hi : i < x.length), i < j → x[i] ≠ 61) (fun jv => X.size - (intOf jv).toNat)
          case atStart => exact ⟨0, Nat.zero_le _, rfl, fun i _ h => absurd h (by omega)⟩
          case round =>
            obtain ⟨j, hj, rfl, hno⟩ := hrel
            have HNO := Lib.hid hno
            clear hno
            by_cases hjl : j < X.size
            · have HXJ := Lib.hid (show ∃ h : j < x.length, x[j] = X[j] from ⟨by rw [← HXS.out]; exact hjl, by
                have e := HXX.out
                subst e
                rfl⟩)
              by_cases hc : X[j] = 61
              · have hc' : ((X[j].toNat : Int) != 61) = false := by rw [hc]; rfl
                have HC := Lib.hid (show Pct.cutAt 61 x = (x.take j, x.drop (j + 1), true) by
                  obtain ⟨h1, h2⟩ := HXJ.out
                  exact cut_hit_of h1 (h2.trans hc) (fun i hi hij => HNO.out i hi hij))
                clear hc
                obtain ⟨xa, hxa⟩ : ∃ xa, xa = x.take j := ⟨_, rfl⟩
                obtain ⟨xb, hxb⟩ : ∃ xb, xb = x.drop (j + 1) := ⟨_, rfl⟩
                have hxe : X.extract 0 j = S xa := by rw [extract_piece, List.drop_zero, HXX.out, S_toList, hxa]; rfl
                have hxf : X.extract (j + 1) X.size = S xb := by rw [extract_rest, HXX.out, S_toList, hxb]
                have hxal : xa.length ≤ 1000 := by rw [hxa, List.length_take]; omega
                have hxbl : xb.length ≤ 1000 := by rw [hxb, List.length_drop]; omega
                rw [← hxa, ← hxb] at HC
                clear hxa hxb
                cases hda : Pct.dec true xa with
                | none =>
                  have HQ := Lib.hid (pairOf_1 HC.out hda)
                  have HDA := Lib.hid hda
                  clear hda
                  go_wp2_with fail
                  refine (refD_none xa wr (by omega) HDA.out).mono ?_
                  rintro e w2 ⟨rfl, hb2⟩
                  have hbw : Below w1.heap.size w1 w2 := hb.trans (hb2.mono hbs)
                  cases hdb : Pct.dec true xb with
                  | none =>
                    have HDB := Lib.hid hdb
                    clear hdb
                    go_wp2_with fail
                    refine (refD_none xb w2 (by omega) HDB.out).mono ?_
                    rintro e w3 ⟨rfl, hb3⟩
                    have hbw3 : Below w1.heap.size w1 w3 := hbw.trans (hb3.mono hbw.size)
                    go_wp2
                    go_ret2
                    exact rf_err (HGO2.out.trans (Pct.formGo_bad acc x _ H0.out HF.out HQ.out)) hb1 hbw3
                  | some z =>
                    have HDB := Lib.hid hdb
                    clear hdb
                    go_wp2_with fail
                    refine (refD_some xb z w2 (by omega) HDB.out).mono ?_
                    rintro e w3 ⟨rfl, hb3⟩
                    have hbw3 : Below w1.heap.size w1 w3 := hbw.trans (hb3.mono hbw.size)
                    go_wp2
                    go_ret2
                    exact rf_err (HGO2.out.trans (Pct.formGo_bad acc x _ H0.out HF.out HQ.out)) hb1 hbw3
                | some y =>
                  have HDA := Lib.hid hda
                  clear hda
                  go_wp2_with fail
                  refine (refD_some xa y wr (by omega) HDA.out).mono ?_
                  rintro e w2 ⟨rfl, hb2⟩
                  have hbw : Below w1.heap.size w1 w2 := hb.trans (hb2.mono hbs)
                  cases hdb : Pct.dec true xb with
                  | none =>
                    have HQ := Lib.hid (pairOf_2 HC.out HDA.out hdb)
                    have HDB := Lib.hid hdb
                    clear hdb
                    go_wp2_with fail
                    refine (refD_none xb w2 (by omega) HDB.out).mono ?_
                    rintro e w3 ⟨rfl, hb3⟩
                    have hbw3 : Below w1.heap.size w1 w3 := hbw.trans (hb3.mono hbw.size)
                    go_wp2
                    go_ret2
                    exact rf_err (HGO2.out.trans (Pct.formGo_bad acc x _ H0.out HF.out HQ.out)) hb1 hbw3
                  | some z =>
                    have HQ := Lib.hid (pairOf_3 HC.out HDA.out hdb)
                    have HDB := Lib.hid hdb
                    clear hdb
                    go_wp2_with fail
                    refine (refD_some xb z w2 (by omega) HDB.out).mono ?_
                    rintro e w3 ⟨rfl, hb3⟩
                    have hbw3 : Below w1.heap.size w1 w3 := hbw.trans (hb3.mono hbw.size)
                    have hb23 : Below wr.heap.size wr w3 := hb2.trans (hb3.mono hb2.size)
                    have hbws := hbw3.size
                    go_wp2_with (at_builtin; refine wpList_append_lies _ rfl (.tmp 67) (.tmp 71) _ rfl w1.heap.size 51 i0 _ 2 32 Tryd.underlying31 hi0 hz0 hz1 hz2 rfl (by omega) (.slice A acc.length cap) acc.length (cells2 acc) rfl ((own_below hrow hb23).alloc _) ⟨w3.heap.size, 0, none⟩ 1 1 [.string (S y), .string (S z)] rfl rfl (World.news_of_block (cs := #[.string (S y), .string (S z)]) (t := 51) (fr := (0, 0)) (heap_alloc_new w3 _)) (by simp [Value.oneCell']) (by omega) (by omega) (by omega) (by simp; omega) (w3.heap.size + 1) (by simp) ?_; intro gg cp w9 hown9 hgrow hat hlt9)
                    have hb9 : Below w1.heap.size w1 w9 := (hbw3.alloc hbws _).grown hgrow (by simp; omega) (fun k hk => (World.ownsRow.lt hrow k hk).1)
                    go_roundw
                    case rel => exact ⟨k + 1, acc ++ [(y, z)], some ⟨gg, 0, none⟩, cp, by omega, by go_num, by simp, prow_snoc (q := (y, z)) hown9, by have := HF.out; simp; omega, hb9, by have := HGO2.out; rw [Pct.formGo_pair acc x _ _ H0.out HF.out HQ.out] at this; exact this⟩
                    case measure => simp [intOf]; omega
              · have hc' : ((X[j].toNat : Int) != 61) = true := by
                  have : X[j].toNat ≠ 61 := fun h => hc (Pct.u8_eq h)
                  simp; omega
                have HC := Lib.hid hc
                clear hc
                go_wp2
                go_round
                case rel =>
                  refine ⟨j + 1, by omega, by go_num, fun i hi hij => ?_⟩
                  by_cases e : i = j
                  · subst e
                    obtain ⟨h1, h2⟩ := HXJ.out
                    exact fun h => HC.out (h2.symm.trans h)
                  · exact HNO.out i hi (by omega)
                case measure => simp [intOf]; omega
            · have HC := Lib.hid (show Pct.cutAt 61 x = (x, [], false) from cut_miss_of fun i hi => HNO.out i hi (by have := HXS.out; omega))
              have hxe : X.extract 0 j = S x := by
                rw [extract_piece, List.drop_zero, HXX.out, S_toList, List.take_of_length_le (by have := HXS.out; omega)]
              cases hda : Pct.dec true x with
              | none =>
                have HQ := Lib.hid (pairOf_1 HC.out hda)
                have HDA := Lib.hid hda
                clear hda
                go_wp2_with fail
                refine (refD_none x wr (by omega) HDA.out).mono ?_
                rintro e w2 ⟨rfl, hb2⟩
                have hbw : Below w1.heap.size w1 w2 := hb.trans (hb2.mono hbs)
                go_wp2
                go_ret2
                exact rf_err (HGO2.out.trans (Pct.formGo_bad acc x _ H0.out HF.out HQ.out)) hb1 hbw
              | some y =>
                have HQ := Lib.hid (pairOf_3 HC.out hda (show Pct.dec true [] = some [] from rfl))
                have HDA := Lib.hid hda
                clear hda
                go_wp2_with fail
                refine (refD_some x y wr (by omega) HDA.out).mono ?_
                rintro e w2 ⟨rfl, hb2⟩
                have hbw : Below w1.heap.size w1 w2 := hb.trans (hb2.mono hbs)
                have hbws := hbw.size
                go_wp2_with (at_builtin; refine wpList_append_lies _ rfl (.tmp 67) (.tmp 71) _ rfl w1.heap.size 51 i0 _ 2 32 Tryd.underlying31 hi0 hz0 hz1 hz2 rfl (by omega) (.slice A acc.length cap) acc.length (cells2 acc) rfl ((own_below hrow hb2).alloc _) ⟨w2.heap.size, 0, none⟩ 1 1 [.string (S y), .string ⟨#[]⟩] rfl rfl (World.news_of_block (cs := #[.string (S y), .string ⟨#[]⟩]) (t := 51) (fr := (0, 0)) (heap_alloc_new w2 _)) (by simp [Value.oneCell']) (by omega) (by omega) (by omega) (by simp; omega) (w2.heap.size + 1) (by simp) ?_; intro gg cp w9 hown9 hgrow hat hlt9)
                have hb9 : Below w1.heap.size w1 w9 := (hbw.alloc hbws _).grown hgrow (by simp; omega) (fun k hk => (World.ownsRow.lt hrow k hk).1)
                go_roundw
                case rel => exact ⟨k + 1, acc ++ [(y, [])], some ⟨gg, 0, none⟩, cp, by omega, by go_num, by simp, prow_snoc (q := (y, [])) hown9, by have := HF.out; simp; omega, hb9, by have := HGO2.out; rw [Pct.formGo_pair acc x _ _ H0.out HF.out HQ.out] at this; exact this⟩
                case measure => simp [intOf]; omega
    · go_wp2
      go_ret2
      refine formPost_ok (acc := acc) ?_ ?_ (hb1.trans (hb.mono hb1.size))
      · have := HGO.out
        unfold FGo at this
        rw [List.drop_of_length_le (by omega)] at this
        exact this
      · exact own_mono hrow hb1.size
end Go.Proofs.YtbpeohadgplaaaaDoor
