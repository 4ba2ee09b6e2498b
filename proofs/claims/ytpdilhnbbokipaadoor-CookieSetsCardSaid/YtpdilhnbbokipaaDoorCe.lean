/- What package cookie's Sent answers, for any header of at most 2^30 bytes. -/
import Derived.Test.YtpdilhnbbokipaaDoorCc
import Derived.Deep.DeepCutAuto
namespace Go.Proofs.YtpdilhnbbokipaaDoor
set_option maxRecDepth 8000
open Go.RowKit

def SentPost (w : World) (r : Except Nat (List Pct.PairL)) (e : Ending) (w' : World) : Prop :=
  match r with
  | .ok l => ∃ v, e = .returned (.tuple #[v, .int .i64 0]) ∧ PRow w.heap.size w' v l ∧ Below w.heap.size w w'
  | .error n => e = .returned (.tuple #[.slice none 0 0, .int .i64 n]) ∧ Below w.heap.size w w'
theorem sentPost_ok {w w' : World} {r : Except Nat (List Pct.PairL)} {acc : List Pct.PairL} {v : Value} (h : r = .ok acc) (hrow : PRow w.heap.size w' v acc) (hb : Below w.heap.size w w') :
    SentPost w r (.returned (.tuple #[v, .int .i64 0])) w' := by rw [h]; exact ⟨v, rfl, hrow, hb⟩
theorem sentPost_err {w w' : World} {r : Except Nat (List Pct.PairL)} {n : Nat} (h : r = .error n) (hb : Below w.heap.size w w') :
    SentPost w r (.returned (.tuple #[.slice none 0 0, .int .i64 n])) w' := by rw [h]; exact ⟨rfl, hb⟩

/-- What has been read, and what is left. -/
def SInv (l : List UInt8) (acc : List Pct.PairL) (r : List UInt8) (m : Bool) : Prop := Ck.sent l = Ck.sentGo acc (if m = true then Pct.split 59 r else [])
theorem SInv.next {l : List UInt8} {acc : List Pct.PairL} {r a b : List UInt8} {f : Bool} (h : SInv l acc r true) (hc : Pct.cutAt 59 r = (a, b, f)) : Ck.sent l = Ck.sentGo acc (a :: if f = true then Pct.split 59 b else []) := by
  unfold SInv at h
  rw [h, if_pos rfl, Pct.split_cut, hc]

theorem new_behind (w2 : World) (o : Obj) : (w2.alloc o).heap[w2.heap.size]? = some o := heap_alloc_new w2 o

set_option maxHeartbeats 1600000 in
theorem sent_any (l : List UInt8) (w : World) (hl : l.length ≤ 1073741824) :
    Calls Tryd.prog 11 #[.string (S l)] w (SentPost w (Ck.sent l)) := by
  obtain ⟨i0, hi0, hz0, hz1, hz2⟩ := info_parts Tryd.infoPair
  have h63 : 20 + 1 ≤ maxLen := by unfold maxLen; omega
  go_enter Tryd.func11, Tryd.ntmps11
  go_wp2
  go_loopw [4, 5, 6] (fun v rest more wr => ∃ (acc : List Pct.PairL) (r : List UInt8) (m : Bool) (A : Option Addr) (cap : Nat), v = .slice A acc.length cap ∧ rest = .string (S r) ∧ more = .bool m ∧ PRow w.heap.size wr (.slice A acc.length cap) acc ∧ acc.length ≤ 20 ∧ r.length ≤ 1073741824 ∧ Below w.heap.size w wr ∧ SInv l acc r m) (fun _ rest more _ => strLen rest + boolN more)
  case atStart => exact ⟨[], l, true, none, 0, rfl, rfl, rfl, World.ownsRow_nil _ _ _ _, by simp, hl, Below.refl _ _, rfl⟩
  case round =>
    obtain ⟨acc, r, m, A, cap, rfl, rfl, rfl, hrow, hal, hrl, hb, hinv⟩ := hrel
    have hbs := hb.size
    cases m with
    | false =>
      go_wp2
      go_ret2
      exact sentPost_ok hinv hrow hb
    | true =>
      obtain ⟨a, b, f, hcut⟩ : ∃ a b f, Pct.cutAt 59 r = (a, b, f) := ⟨_, _, _, rfl⟩
      have HN := Lib.hid (hinv.next hcut)
      have hlen := cutAt_len 59 r
      rw [hcut] at hlen
      have hla : a.length ≤ 1073741824 := by simp only at hlen; omega
      have hlb : b.length ≤ 1073741824 := by simp only at hlen; omega
      have HC := Lib.hid hcut
      clear hcut hinv hlen
      have htl : (Ck.trim a).length ≤ 1073741824 := Nat.le_trans (Ck.trim_len a) hla
      have hT := fun w' => trim_one a w' hla
      obtain ⟨p, hp⟩ : ∃ p, p = Ck.trim a := ⟨_, rfl⟩
      rw [← hp] at htl hT
      have HP := Lib.hid hp
      clear hp
      have HE := Lib.hid (S_empty p)
      go_wp2_with fail
      refine (strCut_to r 59 a b f _ (by omega) HC.out).mono ?_
      rintro e w1 ⟨rfl, hb1⟩
      go_wp2_with fail
      refine (hT _).mono ?_
      rintro e w2 ⟨rfl, hb2⟩
      have hbr : Below wr.heap.size wr w2 := hb1.trans (hb2.mono hb1.size)
      have hbw : Below w.heap.size w w2 := hb.trans (hbr.mono hbs)
      have hrow2 : PRow w.heap.size w2 (.slice A acc.length cap) acc := own_below hrow hbr
      have hws : w.heap.size ≤ w2.heap.size := hbw.size
      clear hb1 hb2 hT hrow hb
      by_cases hpe : p = []
      · have he : (S p).toList.isEmpty = true := by rw [HE.out, hpe]; rfl
        have HQ := Lib.hid (Ck.sentGo_empty acc a (if f = true then Pct.split 59 b else []) (by rw [← HP.out]; exact hpe))
        clear hpe
        go_wp2
        go_roundw
        case rel => exact ⟨acc, b, f, A, cap, rfl, rfl, rfl, hrow2, hal, hlb, hbw, HN.out.trans HQ.out⟩
        case measure => exact cut_measure HC.out
      · have he : (S p).toList.isEmpty = false := by rw [HE.out]; cases p with | nil => exact absurd rfl hpe | cons _ _ => rfl
        have HA := Lib.hid (show Ck.trim a ≠ [] by rw [← HP.out]; exact hpe)
        clear hpe
        by_cases hfull : acc.length = 20
        · have hf' : ((acc.length : Int) == 20) = true := by rw [hfull]; rfl
          have HF := Lib.hid hfull
          clear hfull
          go_wp2
          go_ret2
          exact sentPost_err (HN.out.trans (Ck.sentGo_full acc a _ HA.out HF.out)) hbw
        · have hf' : ((acc.length : Int) == 20) = false := by simp; omega
          have HF := Lib.hid hfull
          clear hfull
          obtain ⟨x, y, g, hcut2⟩ : ∃ x y g, Pct.cutAt 61 p = (x, y, g) := ⟨_, _, _, rfl⟩
          have hlen := cutAt_len 61 p
          rw [hcut2] at hlen
          have hlx : x.length ≤ 1073741824 := by simp only at hlen; omega
          have hly : y.length ≤ 1073741824 := by simp only at hlen; omega
          have HC2 := Lib.hid hcut2
          clear hcut2 hlen
          go_wp2_with fail
          refine (strCut_to p 61 x y g _ (by omega) HC2.out).mono ?_
          rintro e w3 ⟨rfl, hb3⟩
          have hbw3 : Below w.heap.size w w3 := hbw.trans (hb3.mono hws)
          have hrow3 : PRow w.heap.size w3 (.slice A acc.length cap) acc := own_below hrow2 hb3
          have hws3 : w.heap.size ≤ w3.heap.size := hbw3.size
          clear hb3 hbw hrow2 hbr hws
          cases g with
          | false =>
            have HB := Lib.hid (HN.out.trans (Ck.sentGo_bad acc a _ HA.out HF.out (by rw [← HP.out]; exact Ck.piece_no1 HC2.out)))
            go_wp2
            go_ret2
            exact sentPost_err HB.out hbw3
          | true =>
            have hK := fun w' => isToken_any x w' hlx
            have hV := fun w' => isValue_any y w' hly
            cases htk : Ck.token x with
            | false =>
              rw [htk] at hK
              have HB := Lib.hid (HN.out.trans (Ck.sentGo_bad acc a _ HA.out HF.out (by rw [← HP.out]; exact Ck.piece_no2 HC2.out htk)))
              clear htk
              go_wp2_with (go_at_call 34; refine (hK _).mono ?_; rintro e w4 ⟨rfl, hb4⟩)
              go_ret2
              exact sentPost_err HB.out (hbw3.trans (hb4.mono hws3))
            | true =>
              rw [htk] at hK
              cases hvl : Ck.value y with
              | false =>
                rw [hvl] at hV
                have HB := Lib.hid (HN.out.trans (Ck.sentGo_bad acc a _ HA.out HF.out (by rw [← HP.out]; exact Ck.piece_no3 HC2.out hvl)))
                clear htk hvl
                go_wp2_with (first
                  | (go_at_call 34; refine (hK _).mono ?_; rintro e w4 ⟨rfl, hb4⟩)
                  | (go_at_call 35; refine (hV _).mono ?_; rintro e w5 ⟨rfl, rfl⟩))
                go_ret2
                exact sentPost_err HB.out (hbw3.trans (hb4.mono hws3))
              | true =>
                rw [hvl] at hV
                have HB := Lib.hid (HN.out.trans (Ck.sentGo_pair acc a (if f = true then Pct.split 59 b else []) (x, y) HA.out HF.out (by rw [← HP.out]; exact Ck.piece_yes HC2.out htk hvl)))
                clear htk hvl
                go_upto_region 13 with (first
                  | (go_at_call 34; refine (hK _).mono ?_; rintro e w4 ⟨rfl, hb4⟩)
                  | (go_at_call 35; refine (hV _).mono ?_; rintro e w5 ⟨rfl, rfl⟩))
                have hb4' : Below w.heap.size w w4 := hbw3.trans (hb4.mono hws3)
                have hrow4 : PRow w.heap.size w4 (.slice A acc.length cap) acc := own_below hrow3 hb4
                have hws4 : w.heap.size ≤ w4.heap.size := hb4'.size
                have hown : w4.ownsRow w.heap.size 41 2 (.slice A acc.length cap) acc.length (cells2 acc) := hrow4
                clear hb4 hbw3 hrow3 hws3
                go_wp2_with (at_builtin; refine wpList_append_lies _ rfl (.tmp 44) (.tmp 48) _ rfl w.heap.size 41 i0 _ 2 32 Tryd.underlying22 hi0 hz0 hz1 hz2 rfl (by omega) (.slice A acc.length cap) acc.length (cells2 acc) rfl (hown.alloc _) ⟨w4.heap.size, 0, none⟩ 1 1 [.string (S x), .string (S y)] rfl rfl (World.news_of_block (cs := #[.string (S x), .string (S y)]) (t := 41) (fr := (0, 0)) (new_behind w4 _)) (by simp [Value.oneCell']) (by omega) (by omega) (by omega) (by simp; omega) (w4.heap.size + 1) (by simp) ?_; intro gg cp w6 hown6 hgrow hat hlt6)
                have hb6 : Below w.heap.size w w6 := (hb4'.alloc hws4 _).grown hgrow (by simp; omega) (fun k hk => (World.ownsRow.lt hown k hk).1)
                go_roundw
                case rel => exact ⟨acc ++ [(x, y)], b, f, some ⟨gg, 0, none⟩, cp, by simp, rfl, rfl, prow_snoc hown6, by have := HF.out; simp; omega, hlb, hb6, HB.out⟩
                case measure => exact cut_measure HC.out
end Go.Proofs.YtpdilhnbbokipaaDoor
