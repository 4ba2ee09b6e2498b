/- A store in memory: its log, its disk, its table; Get, and Commit where the log has room. Condition: the table of sums reads as its text lays it. The chapter's example of stores, plain. No condition. -/
import Derived.Test.YtfceljbmdcbciaaDoorMg08
import Derived.Test.YtfceljbmdcbciaaDoorMg07
import Derived.Test.YtfceljbmdcbciaaDoorMg12
import Derived.Test.YtfceljbmdcbciaaDoorMg36
namespace Go.Proofs.YtfceljbmdcbciaaDoor
set_option maxRecDepth 8000
open Go.RowKit

/-- The store at block Q: the log at L, the disk at P, a table of at most n values that reads as D. -/
def SK (F : Nat → Prop) (w : World) (P L Q : Nat) (d : Dk.D) (l : Wl.L) (n : Nat) (D : DataW Unit) : Prop :=
  SY F w P L d l ∧ ∃ b, w.heap[Q]? = some (.cells #[.pointer (some ⟨L, 0, none⟩), .map (some b)] 111 (0, 0)) ∧ TB w b n D ∧ ¬ F Q ∧ ¬ F b
theorem SK.keep {F : Nat → Prop} {w w' : World} {P L Q : Nat} {d : Dk.D} {l : Wl.L} {n : Nat} {D : DataW Unit} (h : SK F w P L Q d l n D) (hb : Below w.heap.size w w') : SK F w' P L Q d l n D := by
  obtain ⟨h1, b, h2, h3, h4, h5⟩ := h
  exact ⟨h1.keep hb, b, (hb.block Q (Array.getElem?_eq_some_iff.1 h2).1).trans h2, h3.below hb, h4, h5⟩
theorem TB.lt {w : World} {b n : Nat} {D : DataW Unit} (h : TB w b n D) : b < w.heap.size := World.ownsMap.lt (P := Tryd.prog) (k := 9) (R := Kv.vR) h
theorem TB.at {w w' : World} {b n : Nat} {D : DataW Unit} (h : TB w b n D) (he : w'.heap[b]? = w.heap[b]?) : TB w' b n D := by
  obtain ⟨es, clock, h1, h2⟩ := h
  exact ⟨es, clock, he.trans h1, h2⟩
theorem row_in {base n c : Nat} {w : World} {A : Option Addr} {l : List UInt8} (h : Row base w (.slice A n c) l) : BCells w w.heap.size A l := fun hn => by
  obtain ⟨A', cap, hv, hbc, hlt⟩ := h.form
  injection hv with hA _ _
  subst hA
  obtain ⟨b, off, e, hcc⟩ := hbc hn
  exact ⟨b, off, e, (hlt _ e).2.1, hcc⟩

/-- Get: what lies at a key. -/
theorem kvGet_any {F : Nat → Prop} {w : World} {P L Q : Nat} {d : Dk.D} {l : Wl.L} {n : Nat} {D : DataW Unit} (h : SK F w P L Q d l n D) (k : List UInt8) (hk : k.length ≤ 1073741824) :
    Calls Tryd.prog 59 #[.pointer (some ⟨Q, 0, none⟩), .string (S k)] w fun e w' => ∃ v, e = .returned (.tuple #[.string (S v), .bool (Maps.has D (.string k))]) ∧ D.atKey (.string k) (Kv.valD []) = Kv.valD v ∧ Below w.heap.size w w' := by
  obtain ⟨_, b, hQ, hT, _, _⟩ := h
  have hc := cell_of_row w Q 1 _ _ _ hQ
  simp only [List.getElem?_toArray, List.getElem?_cons_succ, List.getElem?_cons_zero] at hc
  have hkey := keyS hk
  go_enter Tryd.func59, Tryd.ntmps59
  go_wp2_with (at_lookup; refine wpList_lookup_text _ rfl _ _ rfl b n D rfl hT _ _ rfl hkey ?_; intro v hv)
  go_ret2
  exact ⟨v, rfl, hv, (Below.refl _ _).alloc (Nat.le_refl _) _⟩

set_option maxHeartbeats 3200000 in
theorem kvCommit_room {F : Nat → Prop} {w : World} {P L Q : Nat} {d d' : Dk.D} {l l' : Wl.L} {n m c : Nat} {D : DataW Unit} {A : Option Addr} {cs : List Kv.C} {b : List UInt8} (hH : Hs w) (h : SK F w P L Q d l n D) (hF : ∀ x, F x → x < w.heap.size) (hnH : ¬ F 0)
    (hst : d.st = []) (h4 : 4 ≤ d.n) (hg : l.gen ≤ 262143) (ha : l.area ≤ 1) (hu : l.fr.length ≤ 8191) (hm : cs.length = m) (hc : ChIn w w.heap.size A cs) (h0 : 0 < m) (hm2 : m ≤ 20000) (hn : n + m ≤ 1073741824) (henc : Kv.encode cs = .ok b) (happ : Wl.append d l b = (0, d', l')) :
    Calls Tryd.prog 27 #[.pointer (some ⟨Q, 0, none⟩), .slice A m c] w fun e w' => e = .returned (.int .i64 0) ∧ ∃ F' : Nat → Prop, SK F' w' P L Q d' l' (n + m) (Kv.chs D cs) ∧ (∀ x, F' x → x < w'.heap.size) ∧ (∀ x, F' x → F x ∨ w.heap.size ≤ x) ∧ OutP (fun x => F x ∨ x = Q) w w' := by
  obtain ⟨hsy, b0, hQ, hT, hnQ, hnb⟩ := h
  have hQl : Q < w.heap.size := (Array.getElem?_eq_some_iff.1 hQ).1
  have HEN := Lib.hid (kvEncode_any w A m c cs hm hc hm2)
  rw [henc] at HEN
  have hri : ∀ x ∈ cs, Kv.right x = true := by
    intro x hx
    unfold Kv.encode at henc
    split at henc
    · next hall => exact List.all_eq_true.1 hall x hx
    · cases henc
  have HRI := Lib.hid hri
  have HF := Lib.hid (And.intro hF (And.intro hnH (And.intro hnQ hnb)))
  have HL := Lib.hid (And.intro hst (And.intro h4 (And.intro hg (And.intro ha hu))))
  have HAPP := Lib.hid happ
  have HC := Lib.hid hc
  have HH := Lib.hid hH
  have HSY := Lib.hid hsy
  have HM := Lib.hid hm
  clear hri hF hnH hnQ hnb hst h4 hg ha hu happ hc hH hsy henc hm
  have hm0 : ¬ ((m : Int) = 0) := by omega
  have HT := Lib.hid hT
  have HQ := Lib.hid hQ
  clear hT hQ
  go_enter Tryd.func27, Tryd.ntmps27
  go_wp2_with fail
  refine HEN.out.mono ?_
  rintro e w1 ⟨hb1, Ab, cb, rfl, hrow⟩
  have hQ1 : w1.heap[Q]? = _ := (hb1.block Q hQl).trans HQ.out
  have hc1 := cell_of_row w1 Q 1 _ _ _ hQ1
  simp only [List.getElem?_toArray, List.getElem?_cons_succ, List.getElem?_cons_zero] at hc1
  have HCL := Lib.hid (kvClone_any b0 n D w1 (HT.out.below hb1))
  have HROW := Lib.hid hrow
  have HB1 := Lib.hid hb1
  have HQ1 := Lib.hid hQ1
  clear hrow hb1 hQ1 HEN
  go_wp2_with fail
  refine HCL.out.mono ?_
  rintro e w2 ⟨rfl, hT2, hb2⟩
  have hb02 := HB1.out.trans (hb2.mono HB1.out.size)
  have HCH := Lib.hid (kvChange_any w2 w1.heap.size n m c D A cs HM.out hT2 (HC.out.next hb02) (fun ad e => by
    have hlt : 0 < cs.length := by rw [HM.out]; exact h0
    obtain ⟨bx, ox, ex, hx, _⟩ := HC.out hlt
    rw [ex] at e
    injection e with e
    have := HB1.out.size
    rw [← e]
    show bx ≠ _
    omega) HRI.out hn)
  have HB2 := Lib.hid hb2
  have HB02 := Lib.hid hb02
  clear hT2 hb2 hb02 HCL hc1
  go_wp2_with fail
  refine HCH.out.mono ?_
  rintro e w3 ⟨rfl, hT3, hk3⟩
  have hz1 := HB1.out.size
  have hz2 := HB2.out.size
  have hz3 := hk3.size
  have hb13 : Below w1.heap.size w1 w3 := KB.below HB2.out hk3 (Nat.le_refl _) hz2
  have hb03 : Below w.heap.size w w3 := HB1.out.trans (hb13.mono hz1)
  have hQ3 : w3.heap[Q]? = _ := (hb03.block Q hQl).trans HQ.out
  have hc3 := cell_of_row w3 Q 0 _ _ _ hQ3
  simp only [List.getElem?_toArray, List.getElem?_cons_zero] at hc3
  have hrow3 : Row w.heap.size w3 (.slice Ab b.length cb) b := own_below HROW.out hb13
  have hcap := row_cap hrow3
  have HAP := Lib.hid (append_any F w3 P L d l Ab cb b.length b (HH.out.next hb03) (HSY.out.keep hb03) HF.out.2.1 HL.out.1 HL.out.2.1 HL.out.2.2.1 HL.out.2.2.2.1 HL.out.2.2.2.2 (row_in hrow3) rfl hcap.1 hcap.2)
  rw [HAPP.out] at HAP
  have HT3 := Lib.hid hT3
  have HB03 := Lib.hid hb03
  have HQ3 := Lib.hid hQ3
  clear hT3 hk3 hb13 hb03 hQ3 hrow3 hcap HCH HROW
  go_wp2_with fail
  refine HAP.out.mono ?_
  rintro e w4 ⟨rfl, hsy4, ho4⟩
  dsimp only at hsy4 ⊢
  have hz4 := ho4.size
  have hQ4 : w4.heap[Q]? = _ := (ho4.block Q (by omega) HF.out.2.2.1).trans HQ3.out
  have hc40 := cell_of_row w4 Q 0 _ _ _ hQ4
  have hc4 := cell_of_row w4 Q 1 _ _ _ hQ4
  simp only [List.getElem?_toArray, List.getElem?_cons_succ, List.getElem?_cons_zero] at hc4 hc40
  have hf4 : ∀ j, w4.frozen? ⟨Q, j, none⟩ = false := fun j => frozen_of_row w4 Q j _ _ hQ4
  have hnF1 : ¬ F w1.heap.size := fun hx => by have := HF.out.1 _ hx; omega
  have hT4 := HT3.out.at (ho4.block w1.heap.size HT3.out.lt hnF1)
  have HSY4 := Lib.hid hsy4
  have HO4 := Lib.hid ho4
  have HQ4 := Lib.hid hQ4
  have HT4 := Lib.hid hT4
  clear hsy4 ho4 hQ4 hT4 HAP hc3
  go_wp2_with fail
  go_ret
  have hos : OutP (fun x => x = Q) w4 (w4.setCell ⟨Q, 1, none⟩ (.map (some w1.heap.size))) := out_set (F := fun x => x = Q) _ rfl
  have hlt1 : w1.heap.size < w3.heap.size := HT3.out.lt
  refine ⟨rfl, Or F w3.heap.size w4.heap.size, ⟨HSY4.out.out hos (fun x hx => ?_), w1.heap.size, ?_, HT4.out.at (hos.block _ (by omega) (by omega)), ?_, ?_⟩, ?_, ?_, ?_⟩
  · rcases hx with hx | hx
    · intro e
      rw [e] at hx
      exact HF.out.2.2.1 hx
    · omega
  · exact (setP_heap HQ4.out 1 _).trans (by rfl)
  · rintro (hx | hx)
    · exact HF.out.2.2.1 hx
    · omega
  · rintro (hx | hx)
    · exact hnF1 hx
    · omega
  · intro x hx
    rw [World.size_setCell]
    rcases hx with hx | hx
    · have := HF.out.1 x hx
      omega
    · exact hx.2
  · intro x hx
    rcases hx with hx | hx
    · exact .inl hx
    · exact .inr (by omega)
  · exact ((OutP.of (F := F) HB03.out).trans HO4.out (fun _ _ h => h) (fun _ _ h => h)).trans hos (fun _ _ h => .inl h) (fun _ _ h => .inr h)
end Go.Proofs.YtfceljbmdcbciaaDoor
namespace Go.Proofs.YtfceljbmdcbciaaDoor
set_option maxRecDepth 8000
namespace Kv
def exA : List C := [⟨[121], [98], false⟩]
def exB : List C := [⟨[120], [97], false⟩, ⟨[121], [], true⟩]
def exX : Bytes := [1, 121, 0, 1, 98]
def exY : Bytes := [1, 120, 0, 1, 97, 1, 121, 255, 255]
theorem ex_encA : encode exA = .ok exX := by rfl
theorem ex_encB : encode exB = .ok exY := by rfl
def exD : DataW Unit := chs (chs (.map []) exA) exB
theorem ex_x : Maps.has exD (.string [120]) = true ∧ exD.atKey (.string [120]) (valD []) = valD [97] := ⟨by rfl, by rfl⟩
theorem ex_y : Maps.has exD (.string [121]) = false := by rfl
/-- Both changes are appended to a new log. -/
theorem ex_log : ∃ d1 d2, Wl.append (Dk.new 24) ⟨0, 0, []⟩ exX = (0, d1, ⟨1, 0, Fr.frame exX⟩) ∧ d1.n = 24 ∧ d1.st = [] ∧ Wl.append d1 ⟨1, 0, Fr.frame exX⟩ exY = (0, d2, ⟨2, 0, Fr.frame exX ++ Fr.frame exY⟩) ∧ d2.n = 24 ∧ d2.st = [] := by
  have hinv : Wl.Inv 0 24 (Dk.new 24).kept ⟨0, 0, []⟩ := Wl.inv_new 0 (by decide) (by decide)
  obtain ⟨d1, h1, h2, h3, h4, h5, _⟩ := hinv.append_ok (by decide) rfl rfl ⟨by decide, rfl⟩ (b := exX) (by decide) (by rw [List.nil_append, Fr.frame_len]; decide) (by decide)
  rw [List.nil_append] at h1 h2
  obtain ⟨d2, g1, g2, g3, g4, g5, _⟩ := h2.append_ok (by decide) h4 h3 h5 (b := exY) (by decide) (by rw [List.length_append, Fr.frame_len, Fr.frame_len]; decide) (by decide)
  exact ⟨d1, d2, h1, h4, h3, g1, g4, g3⟩
end Kv
end Go.Proofs.YtfceljbmdcbciaaDoor
