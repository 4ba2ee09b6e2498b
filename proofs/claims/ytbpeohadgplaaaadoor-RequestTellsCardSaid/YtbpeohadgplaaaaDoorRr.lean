/- What the document's own Parse of requests answers, for any bytes whose first line reads; and so for any bytes. -/
import Derived.Test.YtbpeohadgplaaaaDoorRq
namespace Go.Proofs.YtbpeohadgplaaaaDoor
set_option maxRecDepth 8000
open Go.RowKit

set_option maxHeartbeats 6400000 in
set_option maxRecDepth 100000 in
theorem refParse_first (l a r m t : List UInt8) (w : World) (he : EnvR w) (hlong : ¬ 4096 < l.length) (hl : Req.line l = some (a, r)) (hf : Req.first a = .ok (m, t)) :
    Calls Tryd.prog 17 #[.string (S l)] w (ReqPost w (Req.parse l)) := by
  obtain ⟨i0, hi0, hz0, hz1, hz2⟩ := info_parts Tryd.infoPair
  have h63 : (33 : Nat) ≤ maxLen := by unfold maxLen; omega
  have hlong' : ¬ 4096 < (S l).size := hlong
  have hsz : (S l).size = l.length := rfl
  have HSZ := Lib.hid hsz
  have hl40 : l.length ≤ 4096 := by omega
  have hs40 : (S l).size ≤ 4096 := by omega
  clear hsz
  have h0 := AtR.new he
  have hglo := he.lt
  clear he
  have hL := fun w' => refLine_some0 l a r w' (by omega) hl
  have hll := Req.line_len hl
  obtain ⟨f0, hf0⟩ : ∃ f0, f0 = a.length + 2 := ⟨_, rfl⟩
  have HR0 := Lib.hid (show r = l.drop f0 by
    have := (line_drop (l := l) (f := 0) (Nat.zero_le _) (by rw [List.drop_zero]; exact hl)).1
    rw [this, hf0]
    congr 1
    omega)
  have hf0l : f0 ≤ l.length := by omega
  rw [← hf0] at hL
  have HP4 := Lib.hid (fun n h => parse_4 (n := n) hlong hl hf h)
  have HP5 := Lib.hid (fun hs b h => parse_5 (hs := hs) (b := b) hlong hl hf h)
  have HP6 := Lib.hid (fun hs b n h => parse_6 (hs := hs) (b := b) (n := n) hlong hl hf h)
  have HF := Lib.hid hf
  clear hl hf hf0 hlong
  go_enter Tryd.func17, Tryd.ntmps17
  go_wp2_with (go_at_call 55; refine (hL _).mono ?_; rintro e w' ⟨rfl, rfl⟩)
  refine (refFirst_ok a m t _ h0.env (by omega) HF.out).mono ?_
  rintro e w2 ⟨rfl, hb2⟩
  have h2 := h0.next hb2
  have hb3 := below_alloc w2 (.cells #[.string (S m), .string (S t), .slice none 0 0, .string ⟨#[]⟩] 33)
  have hI0 : PInv w w2.heap.size m t none 0 [] (w2.alloc (.cells #[.string (S m), .string (S t), .slice none 0 0, .string ⟨#[]⟩] 33)) :=
    ⟨h2.next hb3, BlkR.new w2 m t [] _, World.ownsRow_nil _ _ _ _, h2.lt, by simp, hglo⟩
  clear hb3 h2 hb2 h0 hL hll
  go_wp2
  obtain ⟨g, hg⟩ : ∃ g, g = w2.heap.size := ⟨_, rfl⟩
  rw [← hg] at hI0
  go_loopw [4, 5] (fun _ at' wr => ∃ (acc : List Pct.PairL) (f : Nat) (A : Option Addr) (cap : Nat), at' = .int .i64 (f : Int) ∧ f ≤ l.length ∧ PInv w w2.heap.size m t A cap acc wr ∧ acc.length ≤ 32 ∧ HInv r acc (l.drop f)) (fun _ at' _ => l.length - (intOf at').toNat)
  case atStart => exact ⟨[], f0, none, 0, rfl, hf0l, by rw [← hg]; exact hI0, by simp, by rw [← HR0.out]; exact HInv.start r⟩
  case round =>
    obtain ⟨acc, f, A, cap, rfl, hfl, hI, hal, hinv⟩ := hrel
    clear hI0 hg g
    have HI := Lib.hid hinv
    clear hinv
    obtain ⟨z0, z1, z2, z3, y0, y1, y2, y3⟩ := hI.ans.cells
    have b2 := hI.blk.c2
    cases hln : Req.line (l.drop f) with
    | none =>
      have hL := fun w' => refLine_none l f w' hfl (by omega) hln
      have HR := Lib.hid (HP4.out 3 (HI.out.short hln))
      have hbb := hI.ans.below
      clear hln hI
      go_wp2_with (go_at_call 55; refine (hL _).mono ?_; rintro e w' ⟨rfl, rfl⟩)
      exact bodyPost_ret (v := .tuple #[zeroR, .int .i64 3]) (by simp [results, Tryd.results17, go_sem, zeroR, z0, z1, z2, z3]) rfl (reqPost_err HR.out (below_put4 hbb _ _ _ _))
    | some p =>
      obtain ⟨x, r'⟩ := p
      have hL := fun w' => refLine_some l x r' f w' hfl (by omega) hln
      obtain ⟨hr', hfl'⟩ := line_drop hfl hln
      obtain ⟨f', hf'⟩ : ∃ f', f' = f + x.length + 2 := ⟨_, rfl⟩
      rw [← hf'] at hL hr' hfl'
      have hff : f < f' := by omega
      have hxl : x.length ≤ 4096 := by omega
      have HLN := Lib.hid hln
      have HRR := Lib.hid hr'
      clear hln hr' hf'
      have HE := Lib.hid (S_empty x)
      by_cases hx0 : x = []
      · have hem : (S x).toList.isEmpty = true := by rw [HE.out, hx0]; rfl
        have hends := HI.out.ends (by rw [← hx0]; exact HLN.out)
        obtain ⟨k1, k2, k3⟩ := heads_len 32 r acc r' hends
        have hrl : r.length ≤ 4096 := by rw [HR0.out, List.length_drop]; omega
        have HQ := Lib.hid (show ∀ k (h : k < acc.length), acc[k].1.length ≤ 1073741824 from fun k h => by have := (k3 acc[k] (List.getElem_mem h)).1; omega)
        have HV := Lib.hid (show (Req.hdrV Req.cl acc).length ≤ 1073741824 by have := hdrV_len (N := r.length) Req.cl acc (fun q hq => (k3 q hq).2); omega)
        have HP5' := Lib.hid (fun h => HP5.out acc r' hends h)
        have HP6' := Lib.hid (fun n h => HP6.out acc r' n hends h)
        have b0 := hI.blk.c0
        have b1 := hI.blk.c1
        have b3 := hI.blk.c3
        clear hx0 hends k3
        go_wp2_with (first
          | (go_at_call 55; refine (hL _).mono ?_; rintro e w' ⟨rfl, rfl⟩)
          | fail)
        refine (refLength_any m t A cap acc [] wr hI.pcells (by omega) HQ.out HV.out).mono ?_
        rintro e w3 ⟨rfl, hb3⟩
        have hI3 := hI.next hb3
        clear z0 z1 z2 z3 y0 y1 y2 y3 b0 b1 b2 b3 hb3 hI
        obtain ⟨z0, z1, z2, z3, y0, y1, y2, y3⟩ := hI3.ans.cells
        have hbb := hI3.ans.below
        cases hbl : Req.bodyLen acc with
        | none =>
          have HR := Lib.hid (HP5'.out hbl)
          clear hbl
          unfold lenRes
          go_wp2
          exact bodyPost_ret (v := .tuple #[zeroR, .int .i64 18]) (by simp [results, Tryd.results17, go_sem, zeroR, z0, z1, z2, z3]) rfl (reqPost_err HR.out (below_put4 hbb _ _ _ _))
        | some n =>
          have HR6 := Lib.hid (HP6'.out n hbl)
          clear hbl HP5' HP6'
          unfold lenRes
          have hrz : (r'.length : Int) = ((S l).size : Int) - (f' : Int) := by
            rw [HRR.out, List.length_drop]
            have := HSZ.out
            omega
          have HRZ := Lib.hid hrz
          clear hrz
          by_cases hlt : r'.length < n
          · have hR := HR6.out
            rw [if_pos hlt] at hR
            have HR := Lib.hid hR
            have hlt' : ((S l).size : Int) - (f' : Int) < (n : Int) := by have := HRZ.out; omega
            clear hR
            go_wp2
            exact bodyPost_ret (v := .tuple #[zeroR, .int .i64 3]) (by simp [results, Tryd.results17, go_sem, zeroR, z0, z1, z2, z3]) rfl (reqPost_err HR.out (below_put4 hbb _ _ _ _))
          · have hlt' : ¬ ((S l).size : Int) - (f' : Int) < (n : Int) := by have := HRZ.out; omega
            by_cases hgt : n < r'.length
            · have hR := HR6.out
              rw [if_neg hlt, if_pos hgt] at hR
              have HR := Lib.hid hR
              have hgt' : (n : Int) < ((S l).size : Int) - (f' : Int) := by have := HRZ.out; omega
              clear hR
              go_wp2
              exact bodyPost_ret (v := .tuple #[zeroR, .int .i64 9]) (by simp [results, Tryd.results17, go_sem, zeroR, z0, z1, z2, z3]) rfl (reqPost_err HR.out (below_put4 hbb _ _ _ _))
            · have hR := HR6.out
              rw [if_neg hlt, if_neg hgt] at hR
              have HR := Lib.hid hR
              have hgt' : ¬ (n : Int) < ((S l).size : Int) - (f' : Int) := by have := HRZ.out; omega
              clear hR
              have hx3 : (S l).extract f' (S l).size = S r' := by rw [extract_rest, HRR.out]; rfl
              have hf4 : f' ≤ (S l).size := by have := HSZ.out; omega
              have d0 := hI3.blk.c0
              have d1 := hI3.blk.c1
              have d2 := hI3.blk.c2
              have d3 := hI3.blk.c3
              have g3 := hI3.blk.frozen 3
              have hgg := hI3.gt
              have hrow4 : PRow (w2.heap.size + 1) (w3.setCell ⟨w2.heap.size, 3, none⟩ (.string (S r'))) (.slice A acc.length cap) acc := own_set hI3.row (Nat.lt_succ_self _) _
              obtain ⟨A4, cap4, e4, hat4⟩ := hrow4.at
              cases e4
              have HAT := Lib.hid hat4
              clear hat4 hrow4
              go_wp2
              refine bodyPost_ret (v := .tuple #[rV m t A acc.length cap r', .int .i64 0]) (by simp [results, Tryd.results17, go_sem, rV, z0, z1, z2, z3]) rfl (reqPost_ok (q := ⟨m, t, acc, r'⟩) HR.out ?_ (below_put4 (hbb.setCell (p := ⟨w2.heap.size, 3, none⟩) (Nat.le_of_lt hgg) _) _ _ _ _))
              exact (HAT.out w.heap.size (by omega) _ (Below.refl _ _) _ _ _ _).more (by simp [World.setCell])
      · have hem : (S x).toList.isEmpty = false := by rw [HE.out]; cases x with | nil => exact absurd rfl hx0 | cons _ _ => rfl
        have HX0 := Lib.hid hx0
        clear hx0
        by_cases hfull : acc.length = 32
        · have hf1 : ((acc.length : Int) == 32) = true := by rw [hfull]; rfl
          have HR := Lib.hid (HP4.out 5 (HI.out.full HLN.out HX0.out hfull))
          have hbb := hI.ans.below
          clear hfull hI
          go_wp2_with (go_at_call 55; refine (hL _).mono ?_; rintro e w' ⟨rfl, rfl⟩)
          exact bodyPost_ret (v := .tuple #[zeroR, .int .i64 5]) (by simp [results, Tryd.results17, go_sem, zeroR, z0, z1, z2, z3]) rfl (reqPost_err HR.out (below_put4 hbb _ _ _ _))
        · have hf1 : ((acc.length : Int) == 32) = false := by simp; omega
          have HFU := Lib.hid (show acc.length < 32 by omega)
          clear hfull
          go_wp2_with (go_at_call 55; refine (hL _).mono ?_; rintro e w' ⟨rfl, rfl⟩)
          go_loop [8] (fun i => ∃ k : Nat, k ≤ x.length ∧ i = .int .i64 k ∧ ∀ j (hj : j < x.length), j < k → x[j] ≠ 58) (fun i => x.length - (intOf i).toNat)
          case atStart => exact ⟨0, Nat.zero_le _, rfl, fun j _ hj => absurd hj (by omega)⟩
          case round =>
            obtain ⟨k, hk, rfl, hall⟩ := hrel
            have HALL := Lib.hid hall
            clear hall
            have hxz : (S x).size = x.length := rfl
            by_cases hlt : k < x.length
            · have hlt' : k < (S x).size := hlt
              by_cases h58 : x[k] = 58
              · have e58 : ((((S x)[k]'hlt').toNat : Int) != 58) = false := by
                  rw [show (S x)[k]'hlt' = 58 from h58]
                  rfl
                have ek : ((k : Int) == ((S x).size : Int)) = false := beq_eq_false_iff_ne.2 (by omega)
                have hx1 : (S x).extract (k + 1) (S x).size = S (x.drop (k + 1)) := extract_rest (S x) (k + 1)
                have hx2 : (S x).extract 0 k = S (x.take k) := extract_piece (S x) 0 k
                have HH := Lib.hid (header_at hlt h58 HALL.out)
                have hTr := fun w' => refTrim_any (x.drop (k + 1)) w' (by rw [List.length_drop]; omega)
                have hyl : (Req.trim (x.drop (k + 1))).length ≤ 4096 := by have := trim_len (x.drop (k + 1)); rw [List.length_drop] at this; omega
                have hnl : (x.take k).length ≤ 4096 := by rw [List.length_take]; omega
                obtain ⟨y, hy⟩ : ∃ y, y = Req.trim (x.drop (k + 1)) := ⟨_, rfl⟩
                obtain ⟨nm, hnm⟩ : ∃ nm, nm = x.take k := ⟨_, rfl⟩
                rw [← hy] at HH hTr hyl
                rw [← hnm] at HH hx2 hnl
                clear hy hnm h58 hxz
                have hk1 : k + 1 ≤ (S x).size := hlt'
                have hk0 : k ≤ (S x).size := by omega
                have hTok := fun w' => refToken_any nm w' (by omega)
                have hShn := fun w' => shown_any y 32 32 w' (by omega) rfl
                cases ht : Req.token nm with
                | false =>
                  have HR := Lib.hid (HP4.out 18 (HI.out.bad HLN.out HX0.out HFU.out (by rw [HH.out, ht]; rfl)))
                  rw [ht] at hTok
                  have hbb := hI.ans.below
                  clear ht hI
                  go_wp2_with (first
                    | (go_at_call 57; refine (hTr _).mono ?_; rintro e w' ⟨rfl, rfl⟩)
                    | (go_at_call 34; refine (hTok _).mono ?_; rintro e w' ⟨rfl, rfl⟩))
                  exact bodyPost_ret (v := .tuple #[zeroR, .int .i64 18]) (by simp [results, Tryd.results17, go_sem, zeroR, z0, z1, z2, z3]) rfl (reqPost_err HR.out (below_put4 hbb _ _ _ _))
                | true =>
                  rw [ht] at hTok
                  cases hw : Req.within 32 126 y with
                  | false =>
                    have HR := Lib.hid (HP4.out 18 (HI.out.bad HLN.out HX0.out HFU.out (by rw [HH.out, ht, hw]; rfl)))
                    rw [hw] at hShn
                    have hbb := hI.ans.below
                    clear ht hw hI
                    go_wp2_with (first
                      | (go_at_call 57; refine (hTr _).mono ?_; rintro e w' ⟨rfl, rfl⟩)
                      | (go_at_call 34; refine (hTok _).mono ?_; rintro e w' ⟨rfl, rfl⟩)
                      | (go_at_call 33; refine (hShn _).mono ?_; rintro e w' ⟨rfl, rfl⟩))
                    exact bodyPost_ret (v := .tuple #[zeroR, .int .i64 18]) (by simp [results, Tryd.results17, go_sem, zeroR, z0, z1, z2, z3]) rfl (reqPost_err HR.out (below_put4 hbb _ _ _ _))
                  | true =>
                    have HGO := Lib.hid (HI.out.goes HLN.out HX0.out HFU.out (q := (nm, y)) (by rw [HH.out, ht, hw]; rfl))
                    rw [hw] at hShn
                    clear ht hw
                    go_wp2_with (first
                      | (go_at_call 57; refine (hTr _).mono ?_; rintro e w' ⟨rfl, rfl⟩)
                      | (go_at_call 34; refine (hTok _).mono ?_; rintro e w' ⟨rfl, rfl⟩)
                      | (go_at_call 33; refine (hShn _).mono ?_; rintro e w' ⟨rfl, rfl⟩))
                    have hrow := hI.row
                    unfold PRow at hrow
                    have hgl := hI.lt
                    have hgt := hI.gt
                    have Bw := hI.blk
                    have HANS := Lib.hid hI.ans
                    have hgl0 := hI.glo
                    have HII := Lib.hid hI
                    have h33 : acc.length + 1 ≤ maxLen := by have := HFU.out; omega
                    have h34 : (acc.length + 1) * 32 ≤ 140737488355328 := by have := HFU.out; omega
                    clear hI
                    go_region_law ((refine step_append_lies _ (by rfl) _ _ _ (by rfl) (w2.heap.size + 1) 51 i0 _ 2 32 Tryd.underlying31 hi0 hz0 hz1 hz2 rfl (by omega) (.slice A acc.length cap) acc.length (cells2 acc) (by rfl) ((hrow.alloc _).drew) ⟨wr.heap.size, 0, none⟩ 1 1 [.string (S nm), .string (S y)] (by rfl) (by rfl) (World.news_of_block (cs := #[.string (S nm), .string (S y)]) (t := 51) (fr := (0, 0)) (heap_alloc_new wr _)) (by simp [Value.oneCell']) (by omega) h33 h34 (by simp; omega) (wr.heap.size + 1) (by simp) ?_; intro gg cp w3 hown3 hgrow hat3 hlt3; have B3 : BlkR w3 w2.heap.size m t (.slice A acc.length cap) [] := (hgrow.block w2.heap.size (by simp; omega) (fun e => by have := (hrow.lt _ e.symm).1; omega)).trans ((Below.heap_alloc wr _ w2.heap.size hgl).trans Bw); have e2 := B3.c2; have e2f := B3.frozen 2))
                    all_goals
                      have hbx : Below (w2.heap.size + 1) wr w3 := (((Below.refl (w2.heap.size + 1) wr).alloc (by omega) _).drew).grown hgrow (by simp; omega) (fun k hk => (hrow.lt k hk).1)
                      have hat : AtR w w3 := ⟨HANS.out.env.below hbx ⟨by omega, by omega⟩, HANS.out.blk.below hbx (by omega), HANS.out.below.trans (hbx.mono (by omega)), Nat.lt_of_lt_of_le HANS.out.lt hbx.size⟩
                      have hg3 : w2.heap.size < w3.heap.size := Nat.lt_of_lt_of_le hgl hbx.size
                      go_wp2
                      go_roundw
                      case rel => exact ⟨acc ++ [(nm, y)], f', some ⟨gg, 0, none⟩, cp, rfl, hfl', HII.out.put hown3 B3 hat hg3, by have := HFU.out; simp; omega, by rw [← HRR.out]; exact HGO.out⟩
                      case measure => simp [intOf]; omega
              · have e58 : ((((S x)[k]'hlt').toNat : Int) != 58) = true := bne_iff_ne.2 fun e => h58 (Pct.u8_eq (by show ((S x)[k]'hlt').toNat = 58; omega))
                have HN := Lib.hid h58
                clear h58 hxz
                go_wp2
                go_round
                case rel =>
                  refine ⟨k + 1, by omega, by go_num, fun j hj hjk => ?_⟩
                  by_cases e : j = k
                  · subst e; exact HN.out
                  · exact HALL.out j hj (by omega)
                case measure => simp [intOf]; omega
            · have HR := Lib.hid (HP4.out 18 (HI.out.bad HLN.out HX0.out HFU.out (header_out fun j hj => HALL.out j hj (by omega))))
              have hkx : k = x.length := by omega
              have hlt' : ¬ k < (S x).size := hlt
              have ek : ((k : Int) == ((S x).size : Int)) = true := beq_iff_eq.2 (by omega)
              have hbb := hI.ans.below
              clear hkx hxz hI
              go_wp2
              exact bodyPost_ret (v := .tuple #[zeroR, .int .i64 18]) (by simp [results, Tryd.results17, go_sem, zeroR, z0, z1, z2, z3]) rfl (reqPost_err HR.out (below_put4 hbb _ _ _ _))

theorem refParse_any (l : List UInt8) (w : World) (he : EnvR w) :
    Calls Tryd.prog 17 #[.string (S l)] w (ReqPost w (Req.parse l)) := by
  by_cases hlong : 4096 < l.length
  · rw [parse_1 hlong]
    exact refParse_no l 2 w he (.inl ⟨hlong, rfl⟩)
  · cases hl : Req.line l with
    | none =>
      rw [parse_2 hlong hl]
      exact refParse_no l 3 w he (.inr (.inl ⟨hlong, hl, rfl⟩))
    | some p =>
      obtain ⟨a, r⟩ := p
      cases hf : Req.first a with
      | error n =>
        rw [parse_3 hlong hl hf]
        exact refParse_no l n w he (.inr (.inr ⟨hlong, a, r, hl, hf⟩))
      | ok p =>
        obtain ⟨m, t⟩ := p
        exact refParse_first l a r m t w he hlong hl hf
end Go.Proofs.YtbpeohadgplaaaaDoor
