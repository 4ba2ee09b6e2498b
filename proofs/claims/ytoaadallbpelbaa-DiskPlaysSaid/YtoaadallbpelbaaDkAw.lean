/- The chapter's example comes out (awake), and what Same of the document's answer tells. No condition. -/
import Derived.Test.YtoaadallbpelbaaDkDo
import Derived.Laws.IdiomStrings
import Derived.Lib.BufferRead
import Derived.Lib.SlBytesConst
import Derived.Lib.Strings
namespace Go.Proofs.Ytoaadallbpelbaa
set_option maxRecDepth 8000
open Go.RowKit

def AwakePost (w : World) (e : Ending) (w' : World) : Prop := e = .returned (.bool true) ∧ Below w.heap.size w w'
theorem alloc_at {w : World} {a : Mm} {d : Dk.D} (h : DAt w a d) (ht : There w a) (o : Obj) : DAt (w.alloc o) a d ∧ There (w.alloc o) a := ⟨h.same (fun b hb => Below.heap_alloc w o b (ht.all b hb)), ht.more (by simp)⟩
theorem lit_in (w : World) (l : List UInt8) (cs : Array Value) (fr : Nat × Nat) (n : Nat) (hn : n = w.heap.size) (hc : cs = (bcs l).toArray) : BIn (w.alloc (.cells cs 5 fr)) (some ⟨n, 0, none⟩) l := fun _ =>
  ⟨n, 0, rfl, by rw [hn]; simp, fun k hk => by
    rw [hn, Nat.zero_add, cell_of_row _ w.heap.size k _ _ _ (heap_alloc_new w _), hc]
    simp [bcs, hk]⟩
theorem own_cell {w : World} {base : Nat} {A : Option Addr} {cap : Nat} {l : List UInt8} (h : w.ownsRow base 5 1 (.slice A l.length cap) l.length (bcs l)) (hn : 0 < l.length) : ∃ g, A = some ⟨g, 0, none⟩ ∧ g < w.heap.size ∧ base ≤ g ∧ ∀ k (hk : k < l.length), w.cell? ⟨g, k, none⟩ = some (B l[k]) := by
  obtain ⟨A', cap', e, _, _, hA, hblk⟩ := own_form h
  injection e with e1 _ _
  obtain ⟨g, hg⟩ := hA hn
  rw [hg] at e1
  have hb := hblk g (by rw [hg]; simp [blkOf])
  refine ⟨g, e1, hb.2.1, hb.1, fun k hk => ?_⟩
  have := h.cells (g := g) (by rw [e1]; rfl) k (B l[k]) (by simp [bcs, hk])
  rw [Addr.add_mid, Nat.zero_add] at this
  exact this

set_option maxHeartbeats 1600000 in
theorem awake_any (w : World) : Calls Try.prog 9 #[] w (AwakePost w) := by
  have hNew := new_any w 2
  obtain ⟨d0, hd0⟩ : ∃ d0, d0 = Dk.new 2 := ⟨_, rfl⟩
  obtain ⟨d1, hd1⟩ : ∃ d1, d1 = d0.write 0 [97, 98] := ⟨_, rfl⟩
  obtain ⟨d2, hd2⟩ : ∃ d2, d2 = d1.crash [1] := ⟨_, rfl⟩
  rw [← hd0] at hNew
  have hon : d0.on = true := by rw [hd0]; rfl
  have hwe : d0.writeE 0 [97, 98] = 0 := by rw [hd0]; decide
  have hs0 : d0.st.length = 0 := by rw [hd0]; rfl
  have hs1 : d1.st.length ≤ 1 := by rw [hd1, hd0]; decide
  have hn2 : d2.n = 2 := by rw [hd2, hd1, hd0]; decide
  have hk2 : d2.kept = 97 :: List.replicate 63 0 := by rw [hd2, hd1, hd0]; decide
  have HON := Lib.hid hon
  have HWE := Lib.hid hwe
  have HS0 := Lib.hid hs0
  have HN2 := Lib.hid hn2
  have HK2 := Lib.hid hk2
  have HD1 := Lib.hid hd1
  have HD2 := Lib.hid hd2
  clear hd0 hd1 hd2 hon hwe hs0 hn2 hk2
  go_enter Try.func9, Try.ntmps9
  go_wp2_with fail
  refine hNew.mono ?_
  rintro e w1 ⟨a, rfl, h1, t1, b1, F1⟩
  have hOn := on_any w1 a d0 h1
  rw [HON.out] at hOn
  have H1 := Lib.hid h1
  have T1 := Lib.hid t1
  clear h1 t1 hNew
  go_wp2_with fail
  refine hOn.mono ?_
  rintro e w' ⟨rfl, rfl⟩
  clear hOn
  go_wp2_with fail
  rw [Lib.run_convert_bytes_const w1 29 5 _ 2 2 Try.underlying29 Try.underlying5]
  simp only [Result.andThen]
  rw [Oper.upon_value]
  go_wp2_with fail
  have hat := alloc_at H1.out T1.out (.cells #[.int .u8 97, .int .u8 98] 5 (2, 3))
  have hW := write_any _ a d0 0 (some ⟨w1.heap.size, 0, none⟩) 2 [97, 98] hat.1 hat.2 (by rw [HS0.out]; omega) (by simp) (lit_in w1 [97, 98] _ _ _ rfl rfl) (fun _ ad e hx => by
    injection e with e
    rw [← e] at hx
    have := T1.out.all _ hx
    dsimp only at this
    omega)
  rw [HWE.out, ← HD1.out] at hW
  clear hat
  have hb2 := b1.alloc b1.size (.cells #[.int .u8 97, .int .u8 98] 5 (2, 3))
  refine hW.mono ?_
  rintro e w3 ⟨rfl, a3, p3, k3, at3, t3, o3, f3⟩
  have hb3 : Below w.heap.size w w3 := hb2.trans (o3.below F1 hb2.size)
  have F3 : ∀ x ∈ a3.F, w.heap.size ≤ x := fun x hx => (f3 x hx).elim (F1 x) (fun h => Nat.le_trans hb2.size h)
  have H3 := Lib.hid at3
  have T3 := Lib.hid t3
  have P3 := Lib.hid p3
  clear hW hb2 b1 f3 o3 at3 t3 k3 p3 F1
  go_wp2_with fail
  have hat := alloc_at H3.out T3.out (.cells #[.int .u8 1] 5)
  have hC := crash_any _ a3 d1 (some ⟨w3.heap.size, 0, none⟩) 1 [1] hat.1 hat.2 (by omega) (by simp) (lit_in w3 [1] _ _ _ rfl rfl) (fun _ ad e hx => by
    injection e with e
    rw [← e] at hx
    have := T3.out.all _ hx
    dsimp only at this
    omega)
  rw [P3.out, ← HD2.out] at hC
  clear hat
  have hb4 := hb3.alloc hb3.size (.cells #[.int .u8 1] 5)
  refine hC.mono ?_
  rintro e w5 ⟨rfl, a5, p5, k5, at5, t5, o5, f5⟩
  have hb5 : Below w.heap.size w w5 := hb4.trans (o5.below F3 hb4.size)
  have hp5 : a5.P = a.P := p5.trans P3.out
  have H5 := Lib.hid at5
  have T5 := Lib.hid t5
  have P5 := Lib.hid hp5
  clear hC hb4 hb3 f5 o5 k5 p5 F3 hp5
  have hB := bytes_any w5 a5 d2 at5 t5
  rw [P5.out, HK2.out] at hB
  clear at5 t5
  go_wp2_with fail
  refine hB.mono ?_
  rintro e w6 ⟨⟨A, cp, rfl, hown⟩, hb6⟩
  have h6 : DAt w6 a5 d2 := H5.out.same (fun b hb => hb6.block b (T5.out.all b hb))
  have hL := len_any w6 a5 d2 h6
  rw [P5.out, HN2.out] at hL
  obtain ⟨g, rfl, hg, _, hc⟩ := own_cell hown (by simp)
  have hc0 := hc 0 (by simp)
  have hc1 := hc 1 (by simp)
  have HBF := Lib.hid (hb5.trans (hb6.mono hb5.size))
  have e0 : B ((97 :: List.replicate 63 0 : List UInt8)[0]'(by simp)) = .int .u8 97 := rfl
  have e1 : B ((97 :: List.replicate 63 0 : List UInt8)[1]'(by simp)) = .int .u8 0 := rfl
  rw [e0] at hc0
  rw [e1] at hc1
  have hlen : (97 :: List.replicate 63 0 : List UInt8).length = 64 := by simp
  rw [hlen]
  clear e0 e1 hc hown hb6 hb5 h6 hB hlen
  go_wp2_with (refine hL.mono ?_; rintro e w' ⟨rfl, rfl⟩)
  go_ret
  exact ⟨rfl, HBF.out⟩

def S (l : List UInt8) : ByteArray := ⟨l.toArray⟩
theorem bin_string (w : World) (A : Option Addr) (l : List UInt8) (c : Nat) (h : BIn w A l) : (convert 29 9 (.slice A l.length c)).run Try.prog w = .ok (.string (S l)) w := by
  have hgo : ∀ ad : Addr, (∀ j (hj : j < l.length), w.cell? (ad.add j) = some (.int .u8 (l[j].toNat : Int))) → (convert 29 9 (.slice (some ad) l.length c)).run Try.prog w = .ok (.string (S l)) w := fun ad hc =>
    run_convert_bytes_back w 29 9 5 ad c l Try.underlying29 Try.underlying5 Try.underlying9 hc
  rcases Nat.eq_zero_or_pos l.length with h0 | h0
  · rcases A with _ | ad
    · have : l = [] := List.length_eq_zero_iff.1 h0
      subst this
      exact Lib.run_convert_nil_bytes w 29 9 5 c Try.underlying29 Try.underlying5 Try.underlying9
    · exact hgo ad (fun j hj => absurd hj (by omega))
  · obtain ⟨b, off, rfl, _, hc⟩ := h h0
    exact hgo _ (fun j hj => by rw [Addr.add_mid]; exact hc j hj)
theorem S_list (l : List UInt8) : (S l).toList = l := by rw [Lib.toList_data]; rfl
theorem S_eq (l l' : List UInt8) : ((S l).toList == (S l').toList) = decide (l = l') := by
  rw [S_list, S_list, Bool.eq_iff_iff, beq_iff_eq, decide_eq_true_eq]

theorem same_any (w : World) (A A' : Option Addr) (l l' : List UInt8) (c c' : Nat) (h : BIn w A l) (h' : BIn w A' l') :
    Calls Try.prog 21 #[.slice A l.length c, .slice A' l'.length c'] w fun e w' => e = .returned (.bool (decide (l = l'))) ∧ w = w' := by
  have h1 := bin_string w A l c h
  have h2 := bin_string w A' l' c' h'
  obtain ⟨n, hn⟩ : ∃ n, n = l.length := ⟨_, rfl⟩
  obtain ⟨n', hn'⟩ : ∃ n, n = l'.length := ⟨_, rfl⟩
  rw [← hn] at h1 ⊢
  rw [← hn'] at h2 ⊢
  clear hn hn'
  go_enter Try.func21, Try.ntmps21
  go_wp2_with fail
  go_ret
  exact ⟨ret_bool (S_eq l l'), rfl⟩
end Go.Proofs.Ytoaadallbpelbaa
