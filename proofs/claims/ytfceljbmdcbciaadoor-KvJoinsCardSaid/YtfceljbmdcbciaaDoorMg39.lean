/- A store whose blocks are told, two stores side by side: a Commit of one leaves the other. Condition: the table of sums reads as its text lays it. Are two lists of changes one? No condition. -/
import Derived.Test.YtfceljbmdcbciaaDoorMg38
import Derived.Test.YtfceljbmdcbciaaDoorMg07
import Derived.Deep.QuietTactic
import Derived.BigQuiet
namespace Go.Proofs.YtfceljbmdcbciaaDoor
set_option maxRecDepth 8000
open Go.RowKit

/-- A store, all whose blocks are of G. -/
def SW (G : Nat → Prop) (w : World) (P L Q : Nat) (d : Dk.D) (l : Wl.L) (n : Nat) (D : DataW Unit) : Prop :=
  ∃ (F : Nat → Prop) (b : Nat), SY F w P L d l ∧ w.heap[Q]? = some (.cells #[.pointer (some ⟨L, 0, none⟩), .map (some b)] 111 (0, 0)) ∧ TB w b n D ∧ ¬ F Q ∧ ¬ F b ∧ (∀ x, F x → G x ∧ x < w.heap.size) ∧ G Q ∧ G b
theorem SW.sk {G : Nat → Prop} {w : World} {P L Q : Nat} {d : Dk.D} {l : Wl.L} {n : Nat} {D : DataW Unit} (h : SW G w P L Q d l n D) : ∃ F, SK F w P L Q d l n D := by
  obtain ⟨F, b, h1, h2, h3, h4, h5, _⟩ := h
  exact ⟨F, h1, b, h2, h3, h4, h5⟩
theorem SW.out {G H : Nat → Prop} {w w' : World} {P L Q : Nat} {d : Dk.D} {l : Wl.L} {n : Nat} {D : DataW Unit} (h : SW G w P L Q d l n D) (ho : OutP H w w') (hn : ∀ x, G x → x < w.heap.size → ¬ H x) : SW G w' P L Q d l n D := by
  obtain ⟨F, b, h1, h2, h3, h4, h5, h6, h7, h8⟩ := h
  have hQ : Q < w.heap.size := (Array.getElem?_eq_some_iff.1 h2).1
  have hb := h3.lt
  have hz := ho.size
  have ho' : OutP (fun x => H x ∧ ¬ F x) w w' := ⟨ho.os, ho.tape, ho.output, ho.size, fun x hx hnx => ho.block x hx (fun hH => hnx ⟨hH, fun hF => hn x (h6 x hF).1 (h6 x hF).2 hH⟩)⟩
  exact ⟨F, b, h1.out ho' (fun x hx hxx => hxx.2 hx), (ho.block Q hQ (hn Q h7 hQ)).trans h2, h3.at (ho.block b hb (hn b h8 hb)), h4, h5, fun x hx => ⟨(h6 x hx).1, Nat.lt_of_lt_of_le (h6 x hx).2 hz⟩, h7, h8⟩
theorem SW.keep {G : Nat → Prop} {w w' : World} {P L Q : Nat} {d : Dk.D} {l : Wl.L} {n : Nat} {D : DataW Unit} (h : SW G w P L Q d l n D) (hb : Below w.heap.size w w') : SW G w' P L Q d l n D :=
  h.out (H := fun _ => False) (OutP.of hb) (fun _ _ _ h => h)
theorem NewPost.sw {w0 w : World} {P Q : Nat} {d : Dk.D} {l : Wl.L} (h : NewPost w0 P d l Q w) : ∃ L, SW (fun x => w0.heap.size ≤ x ∧ x < w.heap.size) w P L Q d l 0 (.map []) ∧ Below w0.heap.size w0 w := by
  obtain ⟨L, N, b, h1, h2, h3, h4, h5, h6, h7, h8⟩ := h
  have hQ : Q < w.heap.size := (Array.getElem?_eq_some_iff.1 h2).1
  have hb := h3.lt
  exact ⟨L, ⟨fun x => w0.heap.size ≤ x ∧ x < N, b, h1, h2, h3, fun h => by omega, fun h => by omega, fun x hx => ⟨⟨hx.1, by omega⟩, by omega⟩, ⟨by omega, hQ⟩, ⟨by omega, hb⟩⟩, h8⟩
set_option maxHeartbeats 3200000 in
theorem kvCommit_sw {G : Nat → Prop} {w : World} {P L Q : Nat} {d d' : Dk.D} {l l' : Wl.L} {n m c : Nat} {D : DataW Unit} {A : Option Addr} {cs : List Kv.C} {b : List UInt8} (hH : Hs w) (h : SW G w P L Q d l n D) (hnG : ¬ G 0)
    (hst : d.st = []) (h4 : 4 ≤ d.n) (hg : l.gen ≤ 262143) (ha : l.area ≤ 1) (hu : l.fr.length ≤ 8191) (hm : cs.length = m) (hc : ChIn w w.heap.size A cs) (h0 : 0 < m) (hm2 : m ≤ 20000) (hn : n + m ≤ 1073741824) (henc : Kv.encode cs = .ok b) (happ : Wl.append d l b = (0, d', l')) :
    Calls Tryd.prog 27 #[.pointer (some ⟨Q, 0, none⟩), .slice A m c] w fun e w' => e = .returned (.int .i64 0) ∧ SW (Or G w.heap.size w'.heap.size) w' P L Q d' l' (n + m) (Kv.chs D cs) ∧ OutP G w w' := by
  obtain ⟨F, b0, hsy, hQ, hT, hnQ, hnb, hFG, hGQ, hGb⟩ := h
  have hF : ∀ x, F x → x < w.heap.size := fun x hx => (hFG x hx).2
  have hnH : ¬ F 0 := fun hx => hnG (hFG _ hx).1
  have HGG := Lib.hid (And.intro hFG (And.intro hGQ hGb))
  clear hFG hGQ hGb hnG
  have hQl : Q < w.heap.size := (Array.getElem?_eq_some_iff.1 hQ).1
  have HEN := Lib.hid (kvEncode_any w A m c cs hm hc hm2)
  rw [henc] at HEN
  have hri : ∀ x ∈ cs, Kv.right x = true := by
    intro x hx
    unfold Kv.encode at henc
    split at henc
    · next hall => exact List.all_eq_true.1 hall x hx
    · cases henc
  have HRI := Lib.hid hri
  have HF := Lib.hid (And.intro hF (And.intro hnH (And.intro hnQ hnb)))
  have HL := Lib.hid (And.intro hst (And.intro h4 (And.intro hg (And.intro ha hu))))
  have HAPP := Lib.hid happ
  have HC := Lib.hid hc
  have HH := Lib.hid hH
  have HSY := Lib.hid hsy
  have HM := Lib.hid hm
  clear hri hF hnH hnQ hnb hst h4 hg ha hu happ hc hH hsy henc hm
  have hm0 : ¬ ((m : Int) = 0) := by omega
  have HT := Lib.hid hT
  have HQ := Lib.hid hQ
  clear hT hQ
  go_enter Tryd.func27, Tryd.ntmps27
  go_wp2_with fail
  refine HEN.out.mono ?_
  rintro e w1 ⟨hb1, Ab, cb, rfl, hrow⟩
  have hQ1 : w1.heap[Q]? = _ := (hb1.block Q hQl).trans HQ.out
  have hc1 := cell_of_row w1 Q 1 _ _ _ hQ1
  simp only [List.getElem?_toArray, List.getElem?_cons_succ, List.getElem?_cons_zero] at hc1
  have HCL := Lib.hid (kvClone_any b0 n D w1 (HT.out.below hb1))
  have HROW := Lib.hid hrow
  have HB1 := Lib.hid hb1
  have HQ1 := Lib.hid hQ1
  clear hrow hb1 hQ1 HEN
  go_wp2_with fail
  refine HCL.out.mono ?_
  rintro e w2 ⟨rfl, hT2, hb2⟩
  have hb02 := HB1.out.trans (hb2.mono HB1.out.size)
  have HCH := Lib.hid (kvChange_any w2 w1.heap.size n m c D A cs HM.out hT2 (HC.out.next hb02) (fun ad e => by
    have hlt : 0 < cs.length := by rw [HM.out]; exact h0
    obtain ⟨bx, ox, ex, hx, _⟩ := HC.out hlt
    rw [ex] at e
    injection e with e
    have := HB1.out.size
    rw [← e]
    show bx ≠ _
    omega) HRI.out hn)
  have HB2 := Lib.hid hb2
  have HB02 := Lib.hid hb02
  clear hT2 hb2 hb02 HCL hc1
  go_wp2_with fail
  refine HCH.out.mono ?_
  rintro e w3 ⟨rfl, hT3, hk3⟩
  have hz1 := HB1.out.size
  have hz2 := HB2.out.size
  have hz3 := hk3.size
  have hb13 : Below w1.heap.size w1 w3 := KB.below HB2.out hk3 (Nat.le_refl _) hz2
  have hb03 : Below w.heap.size w w3 := HB1.out.trans (hb13.mono hz1)
  have hQ3 : w3.heap[Q]? = _ := (hb03.block Q hQl).trans HQ.out
  have hc3 := cell_of_row w3 Q 0 _ _ _ hQ3
  simp only [List.getElem?_toArray, List.getElem?_cons_zero] at hc3
  have hrow3 : Row w.heap.size w3 (.slice Ab b.length cb) b := own_below HROW.out hb13
  have hcap := row_cap hrow3
  have HAP := Lib.hid (append_any F w3 P L d l Ab cb b.length b (HH.out.next hb03) (HSY.out.keep hb03) HF.out.2.1 HL.out.1 HL.out.2.1 HL.out.2.2.1 HL.out.2.2.2.1 HL.out.2.2.2.2 (row_in hrow3) rfl hcap.1 hcap.2)
  rw [HAPP.out] at HAP
  have HT3 := Lib.hid hT3
  have HB03 := Lib.hid hb03
  have HQ3 := Lib.hid hQ3
  clear hT3 hk3 hb13 hb03 hQ3 hrow3 hcap HCH HROW
  go_wp2_with fail
  refine HAP.out.mono ?_
  rintro e w4 ⟨rfl, hsy4, ho4⟩
  dsimp only at hsy4 ⊢
  have hz4 := ho4.size
  have hQ4 : w4.heap[Q]? = _ := (ho4.block Q (by omega) HF.out.2.2.1).trans HQ3.out
  have hc40 := cell_of_row w4 Q 0 _ _ _ hQ4
  have hc4 := cell_of_row w4 Q 1 _ _ _ hQ4
  simp only [List.getElem?_toArray, List.getElem?_cons_succ, List.getElem?_cons_zero] at hc4 hc40
  have hf4 : ∀ j, w4.frozen? ⟨Q, j, none⟩ = false := fun j => frozen_of_row w4 Q j _ _ hQ4
  have hnF1 : ¬ F w1.heap.size := fun hx => by have := HF.out.1 _ hx; omega
  have hT4 := HT3.out.at (ho4.block w1.heap.size HT3.out.lt hnF1)
  have HSY4 := Lib.hid hsy4
  have HO4 := Lib.hid ho4
  have HQ4 := Lib.hid hQ4
  have HT4 := Lib.hid hT4
  clear hsy4 ho4 hQ4 hT4 HAP hc3
  go_wp2_with fail
  go_ret
  have hos : OutP (fun x => x = Q) w4 (w4.setCell ⟨Q, 1, none⟩ (.map (some w1.heap.size))) := out_set (F := fun x => x = Q) _ rfl
  have hlt1 : w1.heap.size < w3.heap.size := HT3.out.lt
  refine ⟨rfl, ⟨Or F w3.heap.size w4.heap.size, w1.heap.size, HSY4.out.out hos (fun x hx => ?_), ?_, HT4.out.at (hos.block _ (by omega) (by omega)), ?_, ?_, ?_, .inl HGG.out.2.1, .inr ⟨by omega, by rw [World.size_setCell]; omega⟩⟩, ?_⟩
  · rcases hx with hx | hx
    · intro e
      rw [e] at hx
      exact HF.out.2.2.1 hx
    · omega
  · exact (setP_heap HQ4.out 1 _).trans (by rfl)
  · rintro (hx | hx)
    · exact HF.out.2.2.1 hx
    · omega
  · rintro (hx | hx)
    · exact hnF1 hx
    · omega
  · intro x hx
    rw [World.size_setCell]
    rcases hx with hx | hx
    · have := HF.out.1 x hx
      exact ⟨.inl (HGG.out.1 x hx).1, by omega⟩
    · exact ⟨.inr ⟨by omega, hx.2⟩, hx.2⟩
  · exact ((OutP.of (F := F) HB03.out).trans HO4.out (fun _ _ h => h) (fun _ _ h => h)).trans hos (fun x _ h => (HGG.out.1 x h).1) (fun x _ h => by rw [h]; exact HGG.out.2.1)
end Go.Proofs.YtfceljbmdcbciaaDoor
namespace Go.Proofs.YtfceljbmdcbciaaDoor
set_option maxRecDepth 8000
open Go.RowKit

theorem Tryd.heldChange : Tryd.prog.stoodInHeld 105 = false := by kernel_rfl
theorem Tryd.guardChange : Tryd.prog.eqGuardType Tryd.prog.depth 105 = false := by kernel_rfl
theorem Tryd.fieldsChange : Tryd.prog.underlying 105 = some (.struct (Tryd.prog.fieldsOf 105)) := by kernel_rfl
theorem run_ne_change (w : World) (x y : Kv.C) : (binOp .neq 105 (.agg #[.string (S x.k), .string (S x.v), .bool x.g]) (.agg #[.string (S y.k), .string (S y.v), .bool y.g])).run Tryd.prog w = .ok (.bool (!decide (x = y))) w := by
  rw [run_neq_struct, run_equalIn_struct w 9999 _ _ _ Tryd.fieldsChange Tryd.heldChange]
  obtain ⟨a, b, c⟩ := x
  obtain ⟨a', b', c'⟩ := y
  have hS := S_list
  simp [Program.fieldsOf, Tryd.underlying105, Op.eqFields, go_sem, hS]
  by_cases h1 : a = a'
  · by_cases h2 : b = b'
    · by_cases h3 : c = c'
      · simp [h1, h2, h3]
      · simp [h1, h2, h3]
    · simp [h1, h2]
  · simp [h1]
end Go.Proofs.YtfceljbmdcbciaaDoor
