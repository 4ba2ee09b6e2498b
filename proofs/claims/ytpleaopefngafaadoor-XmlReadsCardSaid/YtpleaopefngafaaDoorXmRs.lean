/- XmlReads, for any text: walked whole. -/
import Derived.Test.YtpleaopefngafaaDoorXmEt
import Derived.Test.YtpleaopefngafaaDoorXmAk
namespace Go.Proofs.YtpleaopefngafaaDoor
set_option maxRecDepth 8000
open Go.RowKit

/-- An answer's number. -/
def codeN : Option Xm.N → Int
  | none => 10
  | some _ => 0
/-- What either Read tells, in one form. -/
theorem ReadPost.form {o : Option Xm.N} {e : Ending} {w' : World} (h : ReadPost o e w') : ∃ A ca K ck, e = .returned (.tuple #[.agg #[.string (S (o.getD Xm.zero).name), .slice A (o.getD Xm.zero).attrs.length ca, .string (S (o.getD Xm.zero).text), .slice K (o.getD Xm.zero).kids.length ck], .int .i64 (codeN o)]) ∧
    Tr w' w'.heap.size (o.getD Xm.zero) (.agg #[.string (S (o.getD Xm.zero).name), .slice A (o.getD Xm.zero).attrs.length ca, .string (S (o.getD Xm.zero).text), .slice K (o.getD Xm.zero).kids.length ck]) := by
  cases o with
  | none => exact ⟨none, 0, none, 0, h, tr_zero w' w'.heap.size⟩
  | some n =>
    obtain ⟨v, he, ht⟩ := h
    obtain ⟨A, ca, K, ck, hv, _⟩ := ht.form
    subst hv
    exact ⟨A, ca, K, ck, he, ht⟩

set_option maxHeartbeats 2000000 in
theorem xmlReads_any (l : List UInt8) (w : World) (hE : EnvX w) :
    Calls Tryd.prog 3 #[.string (S l)] w fun e w' => e = .returned (.bool true) ∧ Below w.heap.size w w' := by
  have HAW : Hid (∀ w' : World, EnvX w' → Calls Tryd.prog 6 #[] w' fun e w'' => e = .returned (.bool true) ∧ Below w'.heap.size w' w'') := Lib.hid (fun w' h => awake_any w' h)
  have hsz : (S l).size = l.length := rfl
  by_cases hlong : 500 < l.length
  · have h1 : (500 : Int) < (l.length : Int) := by omega
    go_enter Tryd.func3, Tryd.ntmps3
    go_wp2_with fail
    refine (HAW.out _ hE).mono ?_
    rintro e w1 ⟨rfl, hb1⟩
    go_wp2_with fail
    go_ret
    exact ⟨rfl, hb1⟩
  · have h1 : ¬ (500 : Int) < (l.length : Int) := by omega
    have HR1 : Hid (∀ w' : World, EnvX w' → Calls Tryd.prog 7 #[.string (S l)] w' fun e w'' => ReadPost (Xm.read l) e w'' ∧ Below w'.heap.size w' w'') := Lib.hid (fun w' h => read_any l w' h (by omega))
    have HR2 : Hid (∀ w' : World, Calls Tryd.prog 8 #[.string (S l)] w' fun e w'' => ReadPost (Xm.read l) e w'' ∧ Below w'.heap.size w' w'') := Lib.hid (fun w' => refRead_any l (by omega) w')
    obtain ⟨o, ho⟩ : ∃ o, o = Xm.read l := ⟨_, rfl⟩
    rw [← ho] at HR1 HR2
    have HL : Hid (All (Lim 1099511627776) (o.getD Xm.zero)) := Lib.hid (by
      cases hr : o with
      | none => exact limits (by decide)
      | some n =>
        have h2 := ((Xm.read_is l n).1 (ho.symm.trans hr)).2
        exact limits (by show (Xm.wr n).length ≤ _; rw [h2]; omega))
    clear ho
    obtain ⟨n, hn⟩ : ∃ n, n = o.getD Xm.zero := ⟨_, rfl⟩
    obtain ⟨c, hc⟩ : ∃ c, c = codeN o := ⟨_, rfl⟩
    have hcc : (c == c) = true := by simp
    have HRF : Hid (∀ e w', ReadPost o e w' → ∃ A ca K ck, e = .returned (.tuple #[.agg #[.string (S n.name), .slice A n.attrs.length ca, .string (S n.text), .slice K n.kids.length ck], .int .i64 c]) ∧
        Tr w' w'.heap.size n (.agg #[.string (S n.name), .slice A n.attrs.length ca, .string (S n.text), .slice K n.kids.length ck])) := Lib.hid (fun e w' h => by rw [hn, hc]; exact h.form)
    rw [← hn] at HL
    clear hn hc
    go_enter Tryd.func3, Tryd.ntmps3
    go_wp2_with fail
    refine (HAW.out _ hE).mono ?_
    rintro e w1 ⟨rfl, hb1⟩
    have hE1 := hE.next hb1
    go_wp2_with fail
    refine (HR1.out _ hE1).mono ?_
    rintro e w2 ⟨hp, hb2⟩
    obtain ⟨A, ca, K, ck, rfl, ht⟩ := HRF.out _ _ hp
    have hbw2 := hb1.trans (hb2.mono hb1.size)
    clear hp hb1 hb2 hE1 hE
    obtain ⟨w3, hw3⟩ : ∃ w3, w3 = w2.alloc (.cells #[.string (S n.name), .slice A n.attrs.length ca, .string (S n.text), .slice K n.kids.length ck] 26) := ⟨_, rfl⟩
    obtain ⟨ga, hga⟩ : ∃ g, g = w2.heap.size := ⟨_, rfl⟩
    have hN3 : BN w3 ga (.string (S n.name)) (.slice A n.attrs.length ca) (.string (S n.text)) (.slice K n.kids.length ck) := by rw [hw3, hga]; exact heap_alloc_new w2 _
    have hb3 : Below w2.heap.size w2 w3 := by rw [hw3]; exact (Below.refl _ _).alloc (Nat.le_refl _) _
    have hbw3 := hbw2.trans (hb3.mono hbw2.size)
    have ht3 := ht.next hb3
    have HW3 := Lib.hid hw3
    have HGA := Lib.hid hga
    clear hw3 hga hb3 ht hbw2
    go_wp2_with fail
    rw [← HW3.out, ← HGA.out]
    refine (HR2.out _).mono ?_
    rintro e w4 ⟨hp, hb4⟩
    obtain ⟨A', ca', K', ck', rfl, ht'⟩ := HRF.out _ _ hp
    have hN4 := hN3.next hb4
    have hbw4 := hbw3.trans (hb4.mono hbw3.size)
    have ht4 := ht3.next hb4
    clear hp hb4 hbw3 hN3 ht3
    obtain ⟨w5, hw5⟩ : ∃ w5, w5 = w4.alloc (.cells #[.string (S n.name), .slice A' n.attrs.length ca', .string (S n.text), .slice K' n.kids.length ck'] 26) := ⟨_, rfl⟩
    obtain ⟨gb, hgb⟩ : ∃ g, g = w4.heap.size := ⟨_, rfl⟩
    have hM5 : BN w5 gb (.string (S n.name)) (.slice A' n.attrs.length ca') (.string (S n.text)) (.slice K' n.kids.length ck') := by rw [hw5, hgb]; exact heap_alloc_new w4 _
    have hb5 : Below w4.heap.size w4 w5 := by rw [hw5]; exact (Below.refl _ _).alloc (Nat.le_refl _) _
    have hN5 := hN4.next hb5
    have hbw5 := hbw4.trans (hb5.mono hbw4.size)
    have HS := Lib.hid (refSame_any _ n (Nat.le_refl _) _ _ w5 (ht4.next hb5) (ht'.next hb5) HL.out)
    have HW5 := Lib.hid hw5
    have HGB := Lib.hid hgb
    have x0 := hN5.c0
    have x1 := hN5.c1
    have x2 := hN5.c2
    have x3 := hN5.c3
    have y0 := hM5.c0
    have y1 := hM5.c1
    have y2 := hM5.c2
    have y3 := hM5.c3
    clear hw5 hgb hb5 ht4 ht' hbw4 hN4 hN5 hM5
    go_upto_region 6 with fail
    rw [← HW5.out, ← HGB.out]
    go_wp2_with fail
    refine HS.out.mono ?_
    rintro e w6 ⟨rfl, hb6⟩
    have hbw6 := hbw5.trans (hb6.mono hbw5.size)
    go_wp2_with fail
    go_ret
    exact ⟨rfl, hbw6⟩
end Go.Proofs.YtpleaopefngafaaDoor
