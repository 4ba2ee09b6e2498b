/- What the statement on sums answers, for any sum and any slice of bytes, where the table reads as its text lays it: true. -/
import Derived.Test.YtlfdgmiiijjbhaaDoorCrRefB
namespace Go.Proofs.YtlfdgmiiijjbhaaDoor
set_option maxRecDepth 8000
open Go.RowKit

theorem refMore_to (s t n : Nat) (A : Option Addr) (l : List UInt8) (cap : Nat) (w : World) (hn : l.length = n) (ht : Cr.more s l = t) (hs : s < 4294967296) (hl : n ≤ 9223372036854775807) (hb : BCells w w.heap.size A l) :
    Calls Tryd.prog 13 #[U s, .slice A n cap] w fun e w' => e = .returned (U t) ∧ Below w.heap.size w w' := by
  subst ht
  exact refMore_any s A l n cap w hn hs hl hb
theorem refOf_to (t n : Nat) (A : Option Addr) (l : List UInt8) (cap : Nat) (w : World) (hn : l.length = n) (ht : Cr.sum l = t) (hl : n ≤ 9223372036854775807) (hb : BCells w w.heap.size A l) :
    Calls Tryd.prog 11 #[.slice A n cap] w fun e w' => e = .returned (U t) ∧ Below w.heap.size w w' := by
  subst ht
  exact refOf_any A l n cap w hn hl hb
theorem BCells.next {w w' : World} {A : Option Addr} {l : List UInt8} (h : BCells w w.heap.size A l) (hb : Below w.heap.size w w') : BCells w' w'.heap.size A l := fun hn0 => by
  obtain ⟨b, off, e1, e2, e3⟩ := h.below hb hn0
  exact ⟨b, off, e1, Nat.lt_of_lt_of_le e2 hb.size, e3⟩

set_option maxHeartbeats 1000000 in
theorem crcTells_in (s : Nat) (A : Option Addr) (l : List UInt8) (n c0 : Nat) (w : World) (hH : Hs w) (hn : l.length = n) (hs : s < 4294967296) (hl : n ≤ 200) (ha : BCells w w.heap.size A l) :
    Calls Tryd.prog 3 #[U s, .slice A n c0] w (AwakePost w) := by
  have hp := hH.pos
  have d1 : decide (200 < (n : Int)) = false := by simpa using (by omega : (n : Int) ≤ 200)
  obtain ⟨t, ht⟩ : ∃ t, Cr.sum l = t := ⟨_, rfl⟩
  obtain ⟨t2, ht2⟩ : ∃ t, Cr.more s l = t := ⟨_, rfl⟩
  have HT := Lib.hid ht
  have HT2 := Lib.hid ht2
  have HN := Lib.hid hn
  clear ht ht2 hn
  go_enter Tryd.func3, Tryd.ntmps3
  go_wp2_with fail
  refine (awake_any w hH).mono ?_
  rintro e w1 ⟨rfl, hb1⟩
  have hH1 := hH.below hb1 hp
  have ha1 := ha.next hb1
  go_wp2_with fail
  refine (of_ex l n c0 t A w1 hH1 HN.out (by omega) ha1.bc HT.out).mono ?_
  rintro e w' ⟨rfl, rfl⟩
  go_wp2_with fail
  refine (refOf_to t n A l c0 w1 HN.out HT.out (by omega) ha1).mono ?_
  rintro e w2 ⟨rfl, hb2⟩
  have hH2 := hH1.below hb2 hH1.pos
  have ha2 := ha1.next hb2
  go_wp2_with fail
  refine (more_to s t2 n A l c0 w2 HN.out HT2.out hs hH2 (by omega) ha2.bc).mono ?_
  rintro e w' ⟨rfl, rfl⟩
  go_wp2_with fail
  refine (refMore_to s t2 n A l c0 w2 HN.out HT2.out hs (by omega) ha2).mono ?_
  rintro e w3 ⟨rfl, hb3⟩
  go_wp2
  go_ret
  have hb12 : Below w.heap.size w w2 := hb1.trans (hb2.mono hb1.size)
  exact ⟨rfl, hb12.trans (hb3.mono hb12.size)⟩

set_option maxHeartbeats 1000000 in
theorem crcTells_out (s : Nat) (A : Option Addr) (n c0 : Nat) (w : World) (hH : Hs w) (h : 200 < n) :
    Calls Tryd.prog 3 #[U s, .slice A n c0] w (AwakePost w) := by
  have d1 : decide (200 < (n : Int)) = true := by simpa using (by omega : (200 : Int) < (n : Int))
  go_enter Tryd.func3, Tryd.ntmps3
  go_wp2_with fail
  refine (awake_any w hH).mono ?_
  rintro e w1 ⟨rfl, hb1⟩
  go_wp2
  go_ret
  exact ⟨rfl, hb1⟩

theorem crcTells_any (q : Int) (hq : (Lit.int .u32 q).wf = true) (A : Option Addr) (c0 : Nat) (l : List UInt8) (w : World) (hH : Hs w) (ha : BCells w w.heap.size A l) :
    Calls Tryd.prog 3 #[.int .u32 q, .slice A l.length c0] w (AwakePost w) := by
  have e1 : IntKind.u32.min = 0 := by decide
  have e2 : IntKind.u32.max = 4294967295 := by decide
  simp [Lit.wf] at hq
  obtain ⟨q', rfl⟩ := Int.eq_ofNat_of_zero_le (show 0 ≤ q by omega)
  by_cases h : l.length ≤ 200
  · exact crcTells_in q' A l _ c0 w hH rfl (by omega) h ha
  · exact crcTells_out q' A _ c0 w hH (by omega)
end Go.Proofs.YtlfdgmiiijjbhaaDoor
