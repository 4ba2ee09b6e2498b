/- What package request's readHeaders answers, for any text of at most 2^30 bytes. -/
import Derived.Test.YtehgigfngelkjaaDoorQd
namespace Go.Proofs.YtehgigfngelkjaaDoor
set_option maxRecDepth 8000
open Go.RowKit
namespace Rq

theorem line_cut (l : List UInt8) : Lib.cut l [13, 10] = match Req.line l with | some p => (p.1, p.2, true) | none => (l, [], false) := by
  unfold Lib.cut Req.line Req.crlf
  by_cases h : 0 ≤ Lib.index l [13, 10]
  · rw [if_pos h, if_pos h]; rfl
  · rw [if_neg h, if_neg h]
theorem lineCut_some (l a b : List UInt8) (w : World) (he : EnvR w) (hs : l.length ≤ 1073741824) (h : Req.line l = some (a, b)) :
    Calls Tryd.prog 42 #[.string (S l), .string ⟨#[13, 10]⟩] w fun e w' => e = .returned (.tuple #[.string (S a), .string (S b), .bool true]) ∧ Below w.heap.size w w' := by
  obtain ⟨m, hm⟩ := he.big
  have hz : (S l).size = l.length := rfl
  refine (Tryd.strings_Cut (S l) ⟨#[13, 10]⟩ m w (by omega) hm).mono fun e w' ⟨h1, h2⟩ => ⟨?_, below_of_drewN h2⟩
  have h3 : Lib.cut (S l).data.toList (⟨#[13, 10]⟩ : ByteArray).data.toList = (a, b, true) := (line_cut l).trans (by rw [h])
  rw [h1, h3]
  rfl
theorem lineCut_none (l : List UInt8) (w : World) (he : EnvR w) (hs : l.length ≤ 1073741824) (h : Req.line l = none) :
    Calls Tryd.prog 42 #[.string (S l), .string ⟨#[13, 10]⟩] w fun e w' => e = .returned (.tuple #[.string (S l), .string ⟨#[]⟩, .bool false]) ∧ Below w.heap.size w w' := by
  obtain ⟨m, hm⟩ := he.big
  have hz : (S l).size = l.length := rfl
  refine (Tryd.strings_Cut (S l) ⟨#[13, 10]⟩ m w (by omega) hm).mono fun e w' ⟨h1, h2⟩ => ⟨?_, below_of_drewN h2⟩
  have h3 : Lib.cut (S l).data.toList (⟨#[13, 10]⟩ : ByteArray).data.toList = (l, [], false) := (line_cut l).trans (by rw [h])
  rw [h1, h3]
  rfl

def HeadsPost (w : World) (r : Except Nat (List Pct.PairL × List UInt8)) (e : Ending) (w' : World) : Prop :=
  match r with
  | .ok p => ∃ v, e = .returned (.tuple #[v, .string (S p.2), .int .i64 0]) ∧ PRow w.heap.size w' v p.1 ∧ Below w.heap.size w w'
  | .error n => e = .returned (.tuple #[.slice none 0 0, .string ⟨#[]⟩, .int .i64 n]) ∧ Below w.heap.size w w'
theorem headsPost_ok {w w' : World} {r : Except Nat (List Pct.PairL × List UInt8)} {acc : List Pct.PairL} {b : List UInt8} {v : Value} (h : r = .ok (acc, b)) (hrow : PRow w.heap.size w' v acc) (hb : Below w.heap.size w w') :
    HeadsPost w r (.returned (.tuple #[v, .string (S b), .int .i64 0])) w' := by rw [h]; exact ⟨v, rfl, hrow, hb⟩
theorem headsPost_err {w w' : World} {r : Except Nat (List Pct.PairL × List UInt8)} {n : Nat} (h : r = .error n) (hb : Below w.heap.size w w') :
    HeadsPost w r (.returned (.tuple #[.slice none 0 0, .string ⟨#[]⟩, .int .i64 n])) w' := by rw [h]; exact ⟨rfl, hb⟩

/-- What is read of r, behind acc, is what is read of all. -/
def HInv (r0 : List UInt8) (acc : List Pct.PairL) (r : List UInt8) : Prop := Req.heads 32 r0 = (Req.heads (32 - acc.length) r).map fun p => (acc ++ p.1, p.2)
theorem HInv.start (r : List UInt8) : HInv r [] r := by
  unfold HInv
  cases h : Req.heads 32 r with
  | error n => simp [Except.map]
  | ok p => simp [Except.map]
section
variable {r0 r a b : List UInt8} {acc : List Pct.PairL}
theorem HInv.short (h : HInv r0 acc r) (hl : Req.line r = none) : Req.heads 32 r0 = .error 3 := by
  unfold HInv at h
  rw [h, Req.heads, hl]
  rfl
theorem HInv.ends (h : HInv r0 acc r) (hl : Req.line r = some ([], b)) : Req.heads 32 r0 = .ok (acc, b) := by
  unfold HInv at h
  rw [h, Req.heads, hl]
  simp [Except.map]
theorem HInv.full (h : HInv r0 acc r) (hl : Req.line r = some (a, b)) (ha : a ≠ []) (hf : acc.length = 32) : Req.heads 32 r0 = .error 5 := by
  unfold HInv at h
  rw [h, hf, Req.heads, hl]
  simp [ha, Except.map]
theorem HInv.bad (h : HInv r0 acc r) (hl : Req.line r = some (a, b)) (ha : a ≠ []) (hf : acc.length < 32) (hq : Req.header a = none) : Req.heads 32 r0 = .error 18 := by
  unfold HInv at h
  obtain ⟨k, hk⟩ : ∃ k, 32 - acc.length = k + 1 := ⟨31 - acc.length, by omega⟩
  rw [h, hk, Req.heads, hl]
  simp [ha, hq, Except.map]
theorem HInv.goes (h : HInv r0 acc r) (hl : Req.line r = some (a, b)) (ha : a ≠ []) (hf : acc.length < 32) {q : Pct.PairL} (hq : Req.header a = some q) : HInv r0 (acc ++ [q]) b := by
  unfold HInv at h ⊢
  obtain ⟨k, hk⟩ : ∃ k, 32 - acc.length = k + 1 := ⟨31 - acc.length, by omega⟩
  rw [h, hk, Req.heads, hl]
  have e : 32 - (acc ++ [q]).length = k := by simp; omega
  rw [e]
  simp only [ha, if_false, hq]
  cases Req.heads k b with
  | error n => rfl
  | ok p => simp [Except.map]
end

set_option maxHeartbeats 800000 in
theorem readHeaders_any (l : List UInt8) (w : World) (he : EnvR w) (hs : l.length ≤ 1073741824) :
    Calls Tryd.prog 44 #[.string (S l)] w (HeadsPost w (Req.heads 32 l)) := by
  obtain ⟨i0, hi0, hz0, hz1, hz2⟩ := info_parts Tryd.infoPair
  have h63 : (33 : Nat) ≤ maxLen := by unfold maxLen; omega
  go_enter Tryd.func44, Tryd.ntmps44
  go_wp2
  go_step3
  go_wp2
  go_step3
  go_wp2
  go_loopw [2, 3, 4] (fun v rest e wr => ∃ (acc : List Pct.PairL) (r : List UInt8) (A : Option Addr) (cap : Nat), v = .slice A acc.length cap ∧ rest = .string (S r) ∧ e = .int .i64 0 ∧ PRow w.heap.size wr (.slice A acc.length cap) acc ∧ acc.length ≤ 32 ∧ r.length ≤ 1073741824 ∧ Below w.heap.size w wr ∧ HInv l acc r) (fun _ rest _ _ => strLen rest)
  case atStart => exact ⟨[], l, none, 0, rfl, rfl, rfl, World.ownsRow_nil _ _ _ _, by simp, hs, Below.refl _ _, HInv.start l⟩
  case round =>
    obtain ⟨acc, r, A, cap, rfl, rfl, rfl, hrow, hal, hrl, hb, hinv⟩ := hrel
    have hbs := hb.size
    have he' := he.next hb
    have HI := Lib.hid hinv
    clear hinv
    cases hl : Req.line r with
    | none =>
      have HL := Lib.hid hl
      clear hl
      go_wp2_with fail
      refine (lineCut_none r _ he' hrl HL.out).mono ?_
      rintro e w1 ⟨rfl, hb1⟩
      go_wp2
      rw [Exit.noGoto_ret]
      go_ret3
      exact headsPost_err (HI.out.short HL.out) (hb.trans (hb1.mono hbs))
    | some p =>
      obtain ⟨a, b⟩ := p
      have hlen := Req.line_len hl
      have hla : a.length ≤ 1073741824 := by omega
      have hlb : b.length ≤ 1073741824 := by omega
      have HM := Lib.hid (show strLen (.string (S b)) < strLen (.string (S r)) from (show b.length < r.length by omega))
      have HL := Lib.hid hl
      clear hl hlen
      have HE := Lib.hid (S_empty a)
      by_cases ha : a = []
      · subst ha
        have hem : (S ([] : List UInt8)).toList.isEmpty = true := HE.out
        go_wp2_with fail
        refine (lineCut_some r [] b _ he' hrl HL.out).mono ?_
        rintro e w1 ⟨rfl, hb1⟩
        go_wp2
        rw [Exit.noGoto_ret]
        go_ret3
        exact headsPost_ok (HI.out.ends HL.out) (own_below hrow hb1) (hb.trans (hb1.mono hbs))
      · have hem : (S a).toList.isEmpty = false := by rw [HE.out]; cases a with | nil => exact absurd rfl ha | cons _ _ => rfl
        have HA := Lib.hid ha
        clear ha
        by_cases hfull : acc.length = 32
        · have hf' : ((acc.length : Int) == 32) = true := by rw [hfull]; rfl
          have HF := Lib.hid hfull
          clear hfull
          go_wp2_with fail
          refine (lineCut_some r a b _ he' hrl HL.out).mono ?_
          rintro e w1 ⟨rfl, hb1⟩
          go_wp2
          rw [Exit.noGoto_ret]
          go_ret3
          exact headsPost_err (HI.out.full HL.out HA.out HF.out) (hb.trans (hb1.mono hbs))
        · have hf' : ((acc.length : Int) == 32) = false := by simp; omega
          have HF := Lib.hid (show acc.length < 32 by omega)
          clear hfull
          cases hq : Req.header a with
          | none =>
            have HQ := Lib.hid hq
            clear hq
            have hH := fun w' => readHeader_any a w' hla
            rw [HQ.out] at hH
            go_wp2_with fail
            refine (lineCut_some r a b _ he' hrl HL.out).mono ?_
            rintro e w1 ⟨rfl, hb1⟩
            have hb1' : Below w.heap.size w w1 := hb.trans (hb1.mono hbs)
            go_wp2_with fail
            refine (hH _).mono ?_
            rintro e w2 ⟨rfl, hb2⟩
            have hb2' : Below w.heap.size w w2 := hb1'.trans (hb2.mono hb1'.size)
            unfold hdrRes
            go_wp2
            rw [Exit.noGoto_ret]
            go_ret3
            exact headsPost_err (HI.out.bad HL.out HA.out HF.out HQ.out) (hb2'.alloc hb2'.size _)
          | some q =>
            have HQ := Lib.hid hq
            clear hq
            have hH := fun w' => readHeader_any a w' hla
            rw [HQ.out] at hH
            go_wp2_with fail
            refine (lineCut_some r a b _ he' hrl HL.out).mono ?_
            rintro e w1 ⟨rfl, hb1⟩
            have hb1' : Below w.heap.size w w1 := hb.trans (hb1.mono hbs)
            go_wp2_with fail
            refine (hH _).mono ?_
            rintro e w2 ⟨rfl, hb2⟩
            have hb2' : Below w.heap.size w w2 := hb1'.trans (hb2.mono hb1'.size)
            have hbr : Below wr.heap.size wr w2 := hb1.trans (hb2.mono hb1.size)
            unfold hdrRes
            have hW : Below wr.heap.size wr ((w2.alloc (.cells #[.string (S q.1), .string (S q.2)] 44)).alloc (.cells #[.string (S q.1), .string (S q.2)] 44)) := (hbr.alloc hbr.size _).alloc (by have := hbr.size; simp; omega) _
            have hW' : Below w.heap.size w ((w2.alloc (.cells #[.string (S q.1), .string (S q.2)] 44)).alloc (.cells #[.string (S q.1), .string (S q.2)] 44)) := hb.trans (hW.mono hbs)
            have hnew := heap_alloc_new (w2.alloc (.cells #[.string (S q.1), .string (S q.2)] 44)) (.cells #[.string (S q.1), .string (S q.2)] 44)
            have hsz : (w2.alloc (.cells #[.string (S q.1), .string (S q.2)] 44)).heap.size = w2.heap.size + 1 := by simp
            rw [hsz] at hnew
            clear hsz
            have hws : w.heap.size ≤ w2.heap.size := hb2'.size
            go_wp2_with (at_builtin; refine wpList_append_lies _ rfl (.tmp 33) (.tmp 35) _ rfl w.heap.size 44 i0 _ 2 32 Tryd.underlying22 hi0 hz0 hz1 hz2 rfl (by omega) (.slice A acc.length cap) acc.length (cells2 acc) rfl (own_below hrow hW) ⟨w2.heap.size + 1, 0, none⟩ 1 1 [.string (S q.1), .string (S q.2)] rfl rfl (World.news_of_block (cs := #[.string (S q.1), .string (S q.2)]) (t := 44) (fr := (0, 0)) hnew) (by simp [Value.oneCell']) (by omega) (by omega) (by omega) (by simp; omega) (w2.heap.size + 2) (by simp) ?_; intro gg cp w3 hown3 hgrow hat hlt3)
            have hb3 : Below w.heap.size w w3 := hW'.grown hgrow hW'.size (fun k hk => (World.ownsRow.lt hrow k hk).1)
            go_wp2
            go_roundw
            case rel => exact ⟨acc ++ [q], b, some ⟨gg, 0, none⟩, cp, by simp, rfl, rfl, prow_snoc hown3, by have := HF.out; simp; omega, hlb, hb3, HI.out.goes HL.out HA.out HF.out HQ.out⟩
            case measure => exact HM.out
end Rq
end Go.Proofs.YtehgigfngelkjaaDoor
