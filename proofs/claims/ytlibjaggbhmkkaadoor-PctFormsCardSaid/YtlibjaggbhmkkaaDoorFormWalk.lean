/- What the statement's own function PctForms does: it answers true for every text, every slice of pairs and every name, where the table of digits reads as its text lays it. -/
import Derived.Test.YtlibjaggbhmkkaaDoorRefF
import Derived.Test.YtlibjaggbhmkkaaDoorGetWalk
namespace Go.Proofs.YtlibjaggbhmkkaaDoor
open Go.RowKit

def rList (r : Except Nat (List Pct.PairL)) : List Pct.PairL :=
  match r with
  | .ok x => x
  | .error _ => []
def rErr (r : Except Nat (List Pct.PairL)) : Int :=
  match r with
  | .ok _ => 0
  | .error n => n

theorem formPost_gen {w w' : World} {r : Except Nat (List Pct.PairL)} {e : Ending} (h : FormPost w r e w') {x : List Pct.PairL} {m : Int} (h1 : x = rList r) (h2 : m = rErr r) :
    ∃ v, e = .returned (.tuple #[v, .int .i64 m]) ∧ PReads w' w'.heap.size v x ∧ Below w.heap.size w w' := by
  subst h1
  subst h2
  cases r with
  | ok y =>
    obtain ⟨v, he, hr, hb⟩ := h
    exact ⟨v, he, hr.reads, hb⟩
  | error n =>
    obtain ⟨he, hb⟩ := h
    exact ⟨_, he, ⟨none, 0, rfl, fun h => absurd h (by simp [rList])⟩, hb⟩

theorem rList_len (l : List UInt8) : (rList (Pct.form l)).length ≤ 32 := by
  unfold rList
  split
  · rename_i x h
    exact Pct.formGo_len _ [] x (by simp) h
  · simp

theorem PReads.more2 {w w' : World} {v : Value} {l : List Pct.PairL} (h : PReads w w.heap.size v l) (hb : Below w.heap.size w w') : PReads w' w'.heap.size v l := (h.below hb).more hb.size

set_option maxHeartbeats 400000 in
theorem pctForms_off (s : ByteArray) (A : Option Addr) (cap : Nat) (l : List Pct.PairL) (nm : ByteArray) (w : World) (hd : Digs w) (hl : PCells w w.heap.size A l) (hm : l.length ≤ 9223372036854775807) (h : fewB l = false ∨ fewB l = true ∧ 400 < s.size) :
    Calls Tryd.prog 4 #[.string s, .slice A l.length cap, .string nm] w (AwakePost w) := by
  rcases h with hf | ⟨hf, hs⟩
  · have HF := Lib.hid hf
    clear hf
    go_enter Tryd.func4, Tryd.ntmps4
    go_wp2_with fail
    refine (awake_any w hd).mono ?_
    rintro e w1 ⟨rfl, hb1⟩
    go_wp2_with fail
    refine (few_to A cap l false w1 (hl.below hb1) hm HF.out).mono ?_
    rintro e w' ⟨rfl, rfl⟩
    go_wp2
    go_ret
    exact ⟨rfl, hb1⟩
  · have HF := Lib.hid hf
    clear hf
    go_enter Tryd.func4, Tryd.ntmps4
    go_wp2_with fail
    refine (awake_any w hd).mono ?_
    rintro e w1 ⟨rfl, hb1⟩
    go_wp2_with fail
    refine (few_to A cap l true w1 (hl.below hb1) hm HF.out).mono ?_
    rintro e w' ⟨rfl, rfl⟩
    go_wp2
    go_ret
    exact ⟨rfl, hb1⟩

set_option maxHeartbeats 800000 in
set_option maxRecDepth 100000 in
theorem pctForms_on (s : ByteArray) (A : Option Addr) (cap : Nat) (l : List Pct.PairL) (nm : List UInt8) (w : World) (hd : Digs w) (hl : PCells w w.heap.size A l) (hf : fewB l = true) (hs : s.size ≤ 400) :
    Calls Tryd.prog 4 #[.string s, .slice A l.length cap, .string (S nm)] w (AwakePost w) := by
  have h0 := hd.lt
  have h50 : l.length ≤ 50 := by unfold fewB at hf; simp at hf; exact hf.2
  have HF := Lib.hid hf
  clear hf
  obtain ⟨x, hx⟩ : ∃ x, x = rList (Pct.form s.data.toList) := ⟨_, rfl⟩
  obtain ⟨m, hm⟩ : ∃ m, m = rErr (Pct.form s.data.toList) := ⟨_, rfl⟩
  have hx32 : x.length ≤ 32 := by rw [hx]; exact rList_len _
  have HX := Lib.hid hx
  have HM := Lib.hid hm
  clear hx hm
  have hsl : s.data.toList.length ≤ 1073741824 := by have : s.data.toList.length = s.size := by simp
                                                     omega
  have HSL := Lib.hid hsl
  clear hsl
  have cF : ∀ W : World, Digs W → Calls Tryd.prog 19 #[.string s] W (FormPost W (Pct.form s.data.toList)) := fun W hW => form_any s.data.toList W hW HSL.out
  have CF := Lib.hid cF
  clear cF
  obtain ⟨gv, hgv⟩ : ∃ gv, gv = Pct.getV nm l := ⟨_, rfl⟩
  obtain ⟨gn, hgn⟩ : ∃ gn, gn = (Pct.getN nm l : Int) := ⟨_, rfl⟩
  have HGV := Lib.hid hgv
  have HGN := Lib.hid hgn
  clear hgv hgn
  obtain ⟨wt, hwt⟩ : ∃ wt, wt = Pct.write l := ⟨_, rfl⟩
  have HWT := Lib.hid hwt
  clear hwt
  go_enter Tryd.func4, Tryd.ntmps4
  go_wp2_with fail
  refine (awake_any w hd).mono ?_
  rintro e w1 ⟨rfl, hb1⟩
  have hl1 := hl.below hb1
  go_wp2_with fail
  refine (few_to A cap l true w1 hl1 (by omega) HF.out).mono ?_
  rintro e w' ⟨rfl, rfl⟩
  go_wp2_with fail
  refine ((CF.out w1 (hd.below hb1 h0)).mono fun e w' h => formPost_gen h HX.out HM.out).mono ?_
  rintro e w2 ⟨va, rfl, pa, hb2⟩
  have hb2' : Below w.heap.size w w2 := hb1.trans (hb2.mono hb1.size)
  have hl2 := hl1.below hb2
  clear hb2 hl1 hb1
  go_wp2_with fail
  refine ((refForm_any s w2 (by omega)).mono fun e w' h => formPost_gen h HX.out HM.out).mono ?_
  rintro e w3 ⟨vb, rfl, pb, hb3⟩
  have hb3' : Below w.heap.size w w3 := hb2'.trans (hb3.mono hb2'.size)
  have hl3 := hl2.below hb3
  have pa3 := pa.more2 hb3
  clear hb3 hl2 pa hb2'
  go_wp2_with fail
  refine (get_any A cap l nm w3 hl3 (by omega)).mono ?_
  rw [← HGV.out, ← HGN.out]
  rintro e w4 ⟨rfl, hb4⟩
  have hb4' : Below w.heap.size w w4 := hb3'.trans (hb4.mono hb3'.size)
  have hl4 := hl3.below hb4
  have pa4 := pa3.more2 hb4
  have pb4 := pb.more2 hb4
  clear hb4 hl3 pa3 pb hb3'
  go_wp2_with fail
  refine (refGet_any A cap l nm w4 hl4 (by omega)).mono ?_
  rw [← HGV.out, ← HGN.out]
  rintro e w' ⟨rfl, rfl⟩
  go_wp2_with fail
  refine (pairs_any va vb x x w4 pa4 pb4 (by omega)).mono ?_
  rintro e w5 ⟨rfl, n5, rfl⟩
  rw [show decide (x = x) = true by simp]
  have hb5' : Below w.heap.size w (w4.drewN n5) := below_drewN hb4' n5
  have hl5 : PCells (w4.drewN n5) (w4.drewN n5).heap.size A l := hl4
  clear hl4 hb4' pa4 pb4
  obtain ⟨w6, hw6⟩ : ∃ w6, w6 = w4.drewN n5 := ⟨_, rfl⟩
  rw [← hw6] at hb5' hl5
  rw [← hw6]
  clear hw6
  go_wp2_with fail
  refine (write_any A cap l w6 (hd.below hb5' h0) hl5 HF.out).mono ?_
  rw [← HWT.out]
  rintro e w7 ⟨rfl, hb7⟩
  have hb7' : Below w.heap.size w w7 := hb5'.trans (hb7.mono hb5'.size)
  have hl7 := hl5.below hb7
  clear hb7 hl5 hb5'
  go_wp2_with fail
  refine (refWrite_any A cap l w7 hl7 HF.out).mono ?_
  rw [← HWT.out]
  rintro e w8 ⟨rfl, hb8⟩
  have hb8' : Below w.heap.size w w8 := hb7'.trans (hb8.mono hb7'.size)
  clear hb8 hl7 hb7'
  go_wp2
  go_ret
  exact ⟨rfl, hb8'⟩

theorem pctForms_any (s : ByteArray) (A : Option Addr) (cap : Nat) (l : List Pct.PairL) (nm : ByteArray) (w : World) (hd : Digs w) (hl : PCells w w.heap.size A l) (hm : l.length ≤ 9223372036854775807) :
    Calls Tryd.prog 4 #[.string s, .slice A l.length cap, .string nm] w (AwakePost w) := by
  cases hf : fewB l with
  | false => exact pctForms_off s A cap l nm w hd hl hm (.inl hf)
  | true =>
    by_cases hs : s.size ≤ 400
    · exact pctForms_on s A cap l nm.data.toList w hd hl hf hs
    · exact pctForms_off s A cap l nm w hd hl hm (.inr ⟨hf, by omega⟩)
end Go.Proofs.YtlibjaggbhmkkaaDoor
