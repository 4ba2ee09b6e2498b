/- What the document's Sent answers, for any header of at most 2^20 bytes. -/
import Derived.Test.YtpdilhnbbokipaaDoorCd
import Derived.Test.YtpdilhnbbokipaaDoorCe
namespace Go.Proofs.YtpdilhnbbokipaaDoor
set_option maxRecDepth 8000
open Go.RowKit

theorem cut_at {c : UInt8} {a : List UInt8} {k : Nat} (hk : k < a.length) (hc : a[k] = c) (h : ∀ j (hj : j < a.length), j < k → a[j] ≠ c) : Pct.cutAt c a = (a.take k, a.drop (k + 1), true) := by
  have e : a = a.take k ++ c :: a.drop (k + 1) := by
    conv => lhs; rw [← List.take_append_drop k a, List.drop_eq_getElem_cons hk, hc]
  conv => lhs; rw [e]
  refine Pct.cutAt_first c _ _ fun x hx => ?_
  obtain ⟨j, hj, rfl⟩ := List.getElem_of_mem hx
  rw [List.length_take] at hj
  rw [List.getElem_take]
  exact h j (by omega) (by omega)
theorem cut_out {c : UInt8} {a : List UInt8} (h : ∀ j (hj : j < a.length), a[j] ≠ c) : Pct.cutAt c a = (a, [], false) :=
  Pct.cutAt_none c a (fun x hx => by
    obtain ⟨j, hj, rfl⟩ := List.getElem_of_mem hx
    exact h j hj)

/-- The pieces that are left. -/
def RInv (l : List UInt8) (acc : List Pct.PairL) (i : Nat) : Prop := Ck.sent l = Ck.sentGo acc ((Pct.split 59 l).drop i)
theorem RInv.next {l : List UInt8} {acc : List Pct.PairL} {i : Nat} (h : RInv l acc i) (hi : i < (Pct.split 59 l).length) : Ck.sent l = Ck.sentGo acc ((Pct.split 59 l)[i] :: (Pct.split 59 l).drop (i + 1)) := by
  unfold RInv at h
  rw [h, List.drop_eq_getElem_cons hi]
theorem RInv.done {l : List UInt8} {acc : List Pct.PairL} {i : Nat} (h : RInv l acc i) (hi : (Pct.split 59 l).length ≤ i) : Ck.sent l = .ok acc := by
  unfold RInv at h
  rw [h, List.drop_of_length_le hi]
  rfl

set_option maxHeartbeats 8000000 in
theorem refSent_any (l : List UInt8) (w : World) (hl : l.length ≤ 1048576) :
    Calls Tryd.prog 12 #[.string (S l)] w (SentPost w (Ck.sent l)) := by
  obtain ⟨i0, hi0, hz0, hz1, hz2⟩ := info_parts Tryd.infoPair
  have h63 : 20 + 1 ≤ maxLen := by unfold maxLen; omega
  have HPS := Lib.hid (Pct.split_ne 59 l)
  have hcount := split_count 59 l
  have HPP := Lib.hid (split_piece 59 l)
  go_enter Tryd.func12, Tryd.ntmps12
  go_wp2_with (go_at_call 36; refine (refCut_any (S l) 59 _ hl).mono ?_; rintro e w0 ⟨vs, rfl, hsrow, hb0⟩)
  rw [S_toList] at hsrow
  obtain ⟨g0, cp0, rfl, hg0, hcells⟩ := hsrow.open HPS.out
  have HCE := Lib.hid hcells
  clear hcells hsrow
  have hINV0 := Lib.hid (show RInv l [] 0 from rfl)
  obtain ⟨ps, hps⟩ : ∃ ps, ps = Pct.split 59 l := ⟨_, rfl⟩
  have HR := Lib.hid (fun acc i => @RInv.next l acc i)
  have HD := Lib.hid (fun acc i => @RInv.done l acc i)
  have HI := Lib.hid (show ∀ acc i, RInv l acc i ↔ Ck.sent l = Ck.sentGo acc (ps.drop i) from fun acc i => by rw [hps]; rfl)
  rw [← hps] at HCE hcount HPP HR HD
  rw [← hps]
  clear hps
  have hw0 := hb0.size
  go_loopw [4, 6] (fun v i wr => ∃ (acc : List Pct.PairL) (k : Nat) (A : Option Addr) (cap : Nat), v = .slice A acc.length cap ∧ i = .int .i64 k ∧ k ≤ ps.length ∧ PRow w0.heap.size wr (.slice A acc.length cap) acc ∧ acc.length ≤ 20 ∧ Below w0.heap.size w0 wr ∧ Below w.heap.size w wr ∧ RInv l acc k) (fun _ i _ => ps.length - (intOf i).toNat)
  case atStart => exact ⟨[], 0, none, 0, rfl, rfl, Nat.zero_le _, World.ownsRow_nil _ _ _ _, by simp, Below.refl _ _, hb0, hINV0.out⟩
  case round =>
    obtain ⟨acc, k, A, cap, rfl, rfl, hk, hrow, hal, hbz, hb, hinv⟩ := hrel
    have hbs := hb.size
    have hbs0 := hbz.size
    by_cases hlt : k < ps.length
    · have HN := Lib.hid (HR.out acc k hinv hlt)
      have c0 : wr.cell? ⟨g0, k, none⟩ = some (.string (S ps[k])) := (hbz.cell (p := ⟨g0, k, none⟩) hg0).trans (HCE.out k hlt)
      have hla : ps[k].length ≤ 1048576 := Nat.le_trans (HPP.out _ (List.getElem_mem hlt)) hl
      have htl : (Ck.trim ps[k]).length ≤ 1048576 := Nat.le_trans (Ck.trim_len ps[k]) hla
      have hT := fun w' => refTrim_any ps[k] w' (by omega)
      obtain ⟨a, ha⟩ : ∃ a, a = ps[k] := ⟨_, rfl⟩
      rw [← ha] at HN c0 hla htl hT
      clear ha
      obtain ⟨p, hp⟩ : ∃ p, p = Ck.trim a := ⟨_, rfl⟩
      rw [← hp] at htl hT
      have HP := Lib.hid hp
      clear hp hinv
      have HE := Lib.hid (S_empty p)
      have n0 : (0 : Int) ≤ (k : Int) := by omega
      have n1 : (k : Int) < (ps.length : Int) := by omega
      by_cases hpe : p = []
      · have he : (S p).toList.isEmpty = true := by rw [HE.out, hpe]; rfl
        have HQ := Lib.hid ((HI.out acc (k + 1)).2 (HN.out.trans (Ck.sentGo_empty acc a (ps.drop (k + 1)) (by rw [← HP.out]; exact hpe))))
        clear hpe
        go_wp2_with (go_at_call 37; refine (hT _).mono ?_; rintro e w1 ⟨rfl, rfl⟩)
        go_roundw
        case rel => exact ⟨acc, k + 1, A, cap, rfl, by go_num, by omega, hrow, hal, hbz, hb, HQ.out⟩
        case measure => simp [intOf]; omega
      · have he : (S p).toList.isEmpty = false := by rw [HE.out]; cases p with | nil => exact absurd rfl hpe | cons _ _ => rfl
        have HA := Lib.hid (show Ck.trim a ≠ [] by rw [← HP.out]; exact hpe)
        clear hpe
        by_cases hfull : acc.length = 20
        · have hf' : ((acc.length : Int) == 20) = true := by rw [hfull]; rfl
          have HF := Lib.hid hfull
          clear hfull
          go_wp2_with (go_at_call 37; refine (hT _).mono ?_; rintro e w1 ⟨rfl, rfl⟩)
          go_ret2
          exact sentPost_err (HN.out.trans (Ck.sentGo_full acc a _ HA.out HF.out)) hb
        · have hf' : ((acc.length : Int) == 20) = false := by simp; omega
          have HF := Lib.hid hfull
          clear hfull
          have hsz : (S p).size ≤ 1048576 := htl
          go_wp2_with (go_at_call 37; refine (hT _).mono ?_; rintro e w1 ⟨rfl, rfl⟩)
          go_loop [8] (fun i => ∃ j : Nat, j ≤ (S p).size ∧ i = .int .i64 j ∧ ∀ m (hm : m < (S p).size), m < j → (S p)[m] ≠ 61) (fun i => (S p).size - (intOf i).toNat)
          case atStart => exact ⟨0, Nat.zero_le _, rfl, fun m _ hm => absurd hm (by omega)⟩
          case round =>
            obtain ⟨j, hj, rfl, hno⟩ := hrel
            have HNO := Lib.hid hno
            clear hno
            by_cases hjl : j < (S p).size
            · by_cases hc : (S p)[j] = 61
              · have e0 : (((S p)[j].toNat : Int) != 61) = false := by rw [hc]; rfl
                have e1 : ((j : Int) == ((S p).size : Int)) = false := beq_eq_false_iff_ne.2 (by omega)
                have hcut : Pct.cutAt 61 p = (p.take j, p.drop (j + 1), true) := cut_at (k := j) hjl hc fun m hm hmj => HNO.out m hm hmj
                have HC2 := Lib.hid hcut
                have hx := extract_piece (S p) 0 j
                have hy := extract_rest (S p) (j + 1)
                have hxl : (p.take j).length ≤ 1048576 := Nat.le_trans (List.length_take_le' _ _) htl
                have hyl : (p.drop (j + 1)).length ≤ 1048576 := Nat.le_trans (by rw [List.length_drop]; exact Nat.sub_le _ _) htl
                rw [S_toList] at hx hy
                simp only [List.drop_zero, Nat.sub_zero] at hx
                clear hcut hc
                obtain ⟨x, hx'⟩ : ∃ x, x = p.take j := ⟨_, rfl⟩
                obtain ⟨y, hy'⟩ : ∃ y, y = p.drop (j + 1) := ⟨_, rfl⟩
                rw [← hx'] at hx hxl HC2
                rw [← hy'] at hy hyl HC2
                clear hx' hy'
                have j0 : (0 : Int) ≤ (j : Int) := by omega
                have j1 : (j : Int) ≤ ((S p).size : Int) := by omega
                have j2 : (0 : Int) ≤ (j : Int) + 1 := by omega
                have j3 : (j : Int) + 1 ≤ ((S p).size : Int) := by omega
                have j4 : IntKind.i64.wrap ((j : Int) + 1) = (j : Int) + 1 := IntWalk.i64_in _ (by omega)
                have hK := fun w' => refToken_any x w' (by omega)
                have hV := fun w' => refValue_any y w' (by omega)
                cases htk : Ck.token x with
                | false =>
                  rw [htk] at hK
                  have HB := Lib.hid (HN.out.trans (Ck.sentGo_bad acc a _ HA.out HF.out (by rw [← HP.out]; exact Ck.piece_no2 HC2.out htk)))
                  clear htk
                  go_wp2_with (go_at_call 23; refine (hK _).mono ?_; rintro e w4 ⟨rfl, rfl⟩)
                  go_ret2
                  exact sentPost_err HB.out hb
                | true =>
                  rw [htk] at hK
                  cases hvl : Ck.value y with
                  | false =>
                    rw [hvl] at hV
                    have HB := Lib.hid (HN.out.trans (Ck.sentGo_bad acc a _ HA.out HF.out (by rw [← HP.out]; exact Ck.piece_no3 HC2.out hvl)))
                    clear htk hvl
                    go_wp2_with (first
                      | (go_at_call 23; refine (hK _).mono ?_; rintro e w4 ⟨rfl, rfl⟩)
                      | (go_at_call 24; refine (hV _).mono ?_; rintro e w5 ⟨rfl, rfl⟩))
                    go_ret2
                    exact sentPost_err HB.out hb
                  | true =>
                    rw [hvl] at hV
                    have HB := Lib.hid ((HI.out (acc ++ [(x, y)]) (k + 1)).2 (HN.out.trans (Ck.sentGo_pair acc a (ps.drop (k + 1)) (x, y) HA.out HF.out (by rw [← HP.out]; exact Ck.piece_yes HC2.out htk hvl))))
                    clear htk hvl
                    have hown : wr.ownsRow w0.heap.size 41 2 (.slice A acc.length cap) acc.length (cells2 acc) := hrow
                    go_wp2_with (first
                      | (go_at_call 23; refine (hK _).mono ?_; rintro e w4 ⟨rfl, rfl⟩)
                      | (go_at_call 24; refine (hV _).mono ?_; rintro e w5 ⟨rfl, rfl⟩))
                    go_region_held3 (fun _ => True) (trivial)
                      ((refine step_append_lies _ (by rfl) _ _ _ (by rfl) w0.heap.size 41 i0 _ 2 32 Tryd.underlying22 hi0 hz0 hz1 hz2 rfl (by omega) (.slice A acc.length cap) acc.length (cells2 acc) (by rfl) ((hown.alloc _).drew)
                            ⟨wr.heap.size, 0, none⟩ 1 1 [.string (S x), .string (S y)] (by rfl) (by rfl) (World.news_of_block (cs := #[.string (S x), .string (S y)]) (t := 41) (fr := (0, 0)) (heap_alloc_new wr _)) (by simp [Value.oneCell'])
                            (by omega) (by omega) (by omega) (by simp; omega) (wr.heap.size + 1) (by simp) ?_; intro gg cp w6 hown6 hgrow hat hlt6))
                    go_wp2
                    go_roundw
                    case rel => exact ⟨acc ++ [(x, y)], k + 1, some ⟨gg, 0, none⟩, cp, by simp, by go_num, by omega, prow_snoc hown6, by have := HF.out; simp; omega, (((hbz.alloc hbz.size _).drew).grown hgrow (by have := hbz.size; simp; omega) (fun q hq => (World.ownsRow.lt hown q hq).1)), (((hb.alloc hbs _).drew).grown hgrow (by simp; omega) (fun q hq => Nat.le_trans hw0 (World.ownsRow.lt hown q hq).1)), HB.out⟩
                    case measure => simp [intOf]; omega
              · have e0 : (((S p)[j].toNat : Int) != 61) = true := by
                  have : (S p)[j].toNat ≠ 61 := fun h => hc (Pct.u8_eq h)
                  simp; omega
                have HC := Lib.hid hc
                clear hc
                go_wp2
                go_round
                case rel =>
                  refine ⟨j + 1, by omega, by go_num, fun m hm hmj => ?_⟩
                  by_cases e : m = j
                  · subst e; exact HC.out
                  · exact HNO.out m hm (by omega)
                case measure => simp [intOf]; omega
            · have hjs : j = (S p).size := by omega
              have e1 : ((j : Int) == ((S p).size : Int)) = true := by rw [hjs]; simp
              have hcut : Pct.cutAt 61 p = (p, [], false) := cut_out fun m hm => HNO.out m hm (by rw [hjs]; exact hm)
              have HB := Lib.hid (HN.out.trans (Ck.sentGo_bad acc a _ HA.out HF.out (by rw [← HP.out]; exact Ck.piece_no1 hcut)))
              clear hcut
              go_wp2
              go_ret2
              exact sentPost_err HB.out hb
    · have HDD := Lib.hid (HD.out acc k hinv (by omega))
      go_wp2
      go_ret2
      exact sentPost_ok HDD.out (own_mono hrow hw0) hb
end Go.Proofs.YtpdilhnbbokipaaDoor
