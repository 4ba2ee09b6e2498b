/- What is guessed of one mark and the text behind it: guessElement of package xml walked, for texts of at most 2^24 bytes. -/
import Derived.Test.YtpleaopefngafaaDoorXmAz
import Derived.Deep.AppendLies
import Derived.Deep.Cut
namespace Go.Proofs.YtpleaopefngafaaDoor
set_option maxRecDepth 8000
open Go.RowKit

/-- What stands at the loop's head: what is left of the mark, the attributes so far, the element's block. -/
structure GE (w1 : World) (g : Nat) (nm tx : List UInt8) (all : List Pct.PairL) (len : Nat) (r : List UInt8) (A : Option Addr) (cap : Nat) (ps : List Pct.PairL) (wr : World) : Prop where
  short : r.length + ps.length ≤ len
  rest : all = ps ++ Xm.attrsL r
  box : BN wr g (.string (S nm)) (.slice A ps.length cap) (.string (S tx)) (.slice none 0 0)
  row : PRow (g + 1) wr (.slice A ps.length cap) ps
  bel : Below g w1 wr
def GERel (w1 : World) (g : Nat) (nm tx : List UInt8) (all : List Pct.PairL) (len : Nat) (rv : Value) (wr : World) : Prop :=
  ∃ r A cap ps, rv = .string (S r) ∧ GE w1 g nm tx all len r A cap ps wr
def strNat : Value → Nat
  | .string s => s.size
  | _ => 0

/-- Within a round: the attribute that is made lies in block gp. -/
structure GT (w1 : World) (g gp : Nat) (nm tx : List UInt8) (x y : Value) (A : Option Addr) (cap : Nat) (ps : List Pct.PairL) (wr : World) : Prop where
  box : BN wr g (.string (S nm)) (.slice A ps.length cap) (.string (S tx)) (.slice none 0 0)
  pair : BP wr gp x y
  row : PRow (g + 1) wr (.slice A ps.length cap) ps
  bel : Below g w1 wr
  lt : g < gp
  rowlt : ∀ k, (Value.slice A ps.length cap).ownBlock = some k → k < gp
section
variable {w1 w w' : World} {g gp : Nat} {nm tx : List UInt8} {x y : Value} {A : Option Addr} {cap : Nat} {ps : List Pct.PairL}
theorem GT.next (h : GT w1 g gp nm tx x y A cap ps w) (hb : Below w.heap.size w w') : GT w1 g gp nm tx x y A cap ps w' :=
  ⟨h.box.next hb, h.pair.next hb, own_below h.row hb, h.bel.trans (hb.mono (Nat.le_of_lt h.box.lt)), h.lt, h.rowlt⟩
theorem GT.set0 (h : GT w1 g gp nm tx x y A cap ps w) (u : Value) : GT w1 g gp nm tx u y A cap ps (w.setCell ⟨gp, 0, none⟩ u) :=
  ⟨h.box.far (Nat.ne_of_lt h.lt) u, h.pair.set0 u, own_set_ne h.row (fun e => absurd (h.rowlt _ e) (Nat.lt_irrefl _)) u, h.bel.setCell (p := ⟨gp, 0, none⟩) (Nat.le_of_lt h.lt) u, h.lt, h.rowlt⟩
theorem GT.set1 (h : GT w1 g gp nm tx x y A cap ps w) (u : Value) : GT w1 g gp nm tx x u A cap ps (w.setCell ⟨gp, 1, none⟩ u) :=
  ⟨h.box.far (Nat.ne_of_lt h.lt) u, h.pair.set1 u, own_set_ne h.row (fun e => absurd (h.rowlt _ e) (Nat.lt_irrefl _)) u, h.bel.setCell (p := ⟨gp, 1, none⟩) (Nat.le_of_lt h.lt) u, h.lt, h.rowlt⟩
end

set_option maxHeartbeats 4000000 in
theorem guessElement_any (m t : List UInt8) (w : World) (hE : EnvX w) (hm : m.length ≤ 16777216) (ht : t.length ≤ 16777216) :
    Calls Tryd.prog 24 #[.string (S m), .string (S t)] w fun e w' => ∃ A cap, e = .returned (nV (Xm.elementG m t).name A (Xm.elementG m t).attrs.length cap (Xm.elementG m t).text none 0 0) ∧ PRow w.heap.size w' (.slice A (Xm.elementG m t).attrs.length cap) (Xm.elementG m t).attrs ∧ Below w.heap.size w w' := by
  obtain ⟨i0, hi0, hz0, hz1, hz2⟩ := info_parts Tryd.infoPair
  rw [Xm.elementG_eq]
  obtain ⟨⟨nm, r0, f0⟩, hc⟩ : ∃ q, Lib.cut m [32] = q := ⟨_, rfl⟩
  have hl0 : nm.length ≤ m.length ∧ r0.length ≤ m.length := by have := cut_lens m [32]; rw [hc] at this; exact this
  rw [hc]
  obtain ⟨tx, htx⟩ : ∃ tx, (Xm.unescape t).getD [] = tx := ⟨_, rfl⟩
  rw [htx]
  show Calls _ _ _ _ fun e w' => ∃ A cap, e = .returned (nV nm A (Xm.attrsL r0).length cap tx none 0 0) ∧ PRow w.heap.size w' (.slice A (Xm.attrsL r0).length cap) (Xm.attrsL r0) ∧ Below w.heap.size w w'
  have HC : Hid (∀ w' : World, EnvX w' → Calls Tryd.prog 34 #[.string (S m), .string ⟨#[32]⟩] w' fun e w'' => e = .returned (.tuple #[.string (S nm), .string (S r0), .bool f0]) ∧ Below w'.heap.size w' w'') := Lib.hid (fun w' h => cut_to m [32] nm r0 f0 w' h (by omega) hc)
  have HU : Hid (∀ w' : World, EnvX w' → Calls Tryd.prog 37 #[.string (S t)] w' fun e w'' => (∃ c : Int, e = .returned (.tuple #[.string (S tx), .int .i64 c])) ∧ Below w'.heap.size w' w'') := Lib.hid (fun w' h => unesc_to t tx w' h ht htx)
  obtain ⟨all, hall⟩ : ∃ all, all = Xm.attrsL r0 := ⟨_, rfl⟩
  rw [← hall]
  have HALL := Lib.hid hall
  clear hc htx hall
  go_enter Tryd.func24, Tryd.ntmps24
  go_wp2_with fail
  obtain ⟨w0, hw0⟩ : ∃ w0, w0 = w.alloc (.cells #[.string ⟨#[]⟩, .slice none 0 0, .string ⟨#[]⟩, .slice none 0 0] 26) := ⟨_, rfl⟩
  obtain ⟨g4, hg4⟩ : ∃ g4, g4 = w.heap.size := ⟨_, rfl⟩
  rw [← hw0, ← hg4]
  have hB4 : BN w0 g4 (.string ⟨#[]⟩) (.slice none 0 0) (.string ⟨#[]⟩) (.slice none 0 0) := by rw [hw0, hg4]; exact heap_alloc_new w _
  have hb0 : Below w.heap.size w w0 := by rw [hw0]; exact (Below.refl _ _).alloc (Nat.le_refl _) _
  have hwg4 : w.heap.size ≤ g4 := by omega
  clear hw0 hg4
  refine (HC.out w0 (hE.next hb0)).mono ?_
  rintro e w1 ⟨rfl, hb1⟩
  have hB41 := hB4.next hb1
  have hbw1 : Below w.heap.size w w1 := hb0.trans (hb1.mono hb0.size)
  clear hB4 hb0 hb1
  go_upto_region 3 with (fail)
  obtain ⟨w2, hw2⟩ : ∃ w2, w2 = w1.alloc (.cells #[.string (S nm), .slice none 0 0, .string ⟨#[]⟩, .slice none 0 0] 26) := ⟨_, rfl⟩
  obtain ⟨g, hg⟩ : ∃ g, g = w1.heap.size := ⟨_, rfl⟩
  rw [← hw2, ← hg]
  have hB2 : BN w2 g (.string (S nm)) (.slice none 0 0) (.string ⟨#[]⟩) (.slice none 0 0) := by rw [hw2, hg]; exact heap_alloc_new w1 _
  have hb2 : Below g w1 w2 := by rw [hw2, hg]; exact (Below.refl _ _).alloc (Nat.le_refl _) _
  have hg1 : g ≤ w1.heap.size := by omega
  have hg4g : g4 < g := by rw [hg]; exact hB41.lt
  have hwg : w.heap.size ≤ g := by omega
  have HWG := Lib.hid hg
  clear hw2 hg
  have hE2 : EnvX w2 := (hE.next hbw1).keepB hb2 (by have := hE.two; omega) hb2.size
  go_wp2_with fail
  refine (HU.out w2 hE2).mono ?_
  rintro e w3 ⟨⟨c3, rfl⟩, hb3⟩
  have hB3 := hB2.next hb3
  have hb13 : Below g w1 w3 := hb2.trans (hb3.mono (by have := hB2.lt; omega))
  have k2 := hB3.c2
  have f2 := hB3.fr 2
  have hs3 := hB3.set2 (.string (S tx))
  have hb14 : Below g w1 (w3.setCell ⟨g, 2, none⟩ (.string (S tx))) := hb13.setCell (p := ⟨g, 2, none⟩) (Nat.le_refl _) _
  have HST := Lib.hid hs3
  have HB14 := Lib.hid hb14
  clear hB2 hb2 hb3 hB3 hb13 hs3 hb14 hE2
  go_wp2_with fail
  go_loopw [6] (fun rv wr => GERel w1 g nm tx all r0.length rv wr) (fun rv _ => strNat rv)
  case atStart => exact ⟨r0, none, 0, [], rfl, by simp, by rw [HALL.out]; rfl, HST.out, World.ownsRow_nil _ _ _ _, HB14.out⟩
  case round =>
    obtain ⟨r, A, cap, ps, rfl, hge⟩ := hrel
    by_cases hr : r = []
    · have hq : (S r).toList = [] := by rw [S_list]; exact hr
      have hps : ps = all := by rw [hge.rest, hr, Xm.attrsL_nil, List.append_nil]
      subst hps
      have B5 := hB41.keepB hge.bel hg4g
      have hbw : Below w.heap.size w wr := hbw1.trans (hge.bel.mono hwg)
      have z0 := hge.box.c0
      have z1 := hge.box.c1
      have z2 := hge.box.c2
      have z3 := hge.box.c3
      have k1 := B5.set0 (.string (S nm))
      have k2 := k1.set1 (.slice A ps.length cap)
      have k3 := k2.set2 (.string (S tx))
      have k4 := k3.set3 (.slice none 0 0)
      have c0 := B5.c0
      have f0 := B5.fr 0
      have c1 := k1.c1
      have f1 := k1.fr 1
      have c2 := k2.c2
      have f2 := k2.fr 2
      have c3 := k3.c3
      have f3 := k3.fr 3
      have q0 := k4.c0
      have q1 := k4.c1
      have q2 := k4.c2
      have q3 := k4.c3
      have hne : (Value.slice A ps.length cap).ownBlock ≠ some g4 := fun e => by have := (World.ownsRow.lt hge.row g4 e).1; omega
      have hown := own_set_ne (i := 3) (own_set_ne (i := 2) (own_set_ne (i := 1) (own_set_ne (i := 0) hge.row hne (.string (S nm))) hne (.slice A ps.length cap)) hne (.string (S tx))) hne (.slice none 0 0)
      have hbb := (((hbw.setCell (p := ⟨g4, 0, none⟩) hwg4 (.string (S nm))).setCell (p := ⟨g4, 1, none⟩) hwg4 (.slice A ps.length cap)).setCell (p := ⟨g4, 2, none⟩) hwg4 (.string (S tx))).setCell (p := ⟨g4, 3, none⟩) hwg4 (.slice none 0 0)
      have HO := Lib.hid hown
      have HBB := Lib.hid hbb
      clear hown hbb hge B5 k1 k2 k3 k4 hr hne hbw
      go_wp2_with fail
      refine bodyPost_ret (v := nV nm A ps.length cap tx none 0 0) ?_ rfl ⟨A, cap, rfl, own_monoB HO.out (by omega), HBB.out⟩
      simp [results, Tryd.results24, go_sem, q0, q1, q2, q3, nV]
    · have hq1 : ((S r).toList == []) = false := by rw [S_list]; simpa using hr
      have hq2 : (S r).toList.isEmpty = false := by rw [S_list]; simpa using hr
      have hstep := Xm.attrsL_step hr
      have hless := Xm.stepR_less hr
      have hshort := hge.short
      obtain ⟨⟨an, r1, f1⟩, hc1⟩ : ∃ q, Lib.cut r [61, 34] = q := ⟨_, rfl⟩
      obtain ⟨⟨av, r2, f2⟩, hc2⟩ : ∃ q, Lib.cut r1 [34] = q := ⟨_, rfl⟩
      have hl1 : r1.length ≤ r.length := by have := (cut_lens r [61, 34]).2; rw [hc1] at this; exact this
      have hl2 : av.length ≤ r1.length ∧ r2.length ≤ r1.length := by have := cut_lens r1 [34]; rw [hc2] at this; exact this
      have e1 : Xm.stepN r = an := by unfold Xm.stepN; rw [hc1]
      obtain ⟨uv, huv⟩ : ∃ uv, (Xm.unescape av).getD [] = uv := ⟨_, rfl⟩
      have e2 : Xm.stepV r = uv := by unfold Xm.stepV; rw [hc1, hc2, huv]
      obtain ⟨r3, hr3⟩ : ∃ r3, Lib.trimPrefix r2 [32] = r3 := ⟨_, rfl⟩
      have e3 : Xm.stepR r = r3 := by unfold Xm.stepR; rw [hc1, hc2, hr3]
      rw [e1, e2, e3] at hstep
      rw [e3] at hless
      have hrm : r.length ≤ 16777216 := by omega
      have HC1 : Hid (∀ w' : World, EnvX w' → Calls Tryd.prog 34 #[.string (S r), .string ⟨#[61, 34]⟩] w' fun e w'' => e = .returned (.tuple #[.string (S an), .string (S r1), .bool f1]) ∧ Below w'.heap.size w' w'') := Lib.hid (fun w' h => cut_to r [61, 34] an r1 f1 w' h (by omega) hc1)
      have HC2 : Hid (∀ w' : World, EnvX w' → Calls Tryd.prog 34 #[.string (S r1), .string ⟨#[34]⟩] w' fun e w'' => e = .returned (.tuple #[.string (S av), .string (S r2), .bool f2]) ∧ Below w'.heap.size w' w'') := Lib.hid (fun w' h => cut_to r1 [34] av r2 f2 w' h (by omega) hc2)
      have HU2 : Hid (∀ w' : World, EnvX w' → Calls Tryd.prog 37 #[.string (S av)] w' fun e w'' => (∃ c : Int, e = .returned (.tuple #[.string (S uv), .int .i64 c])) ∧ Below w'.heap.size w' w'') := Lib.hid (fun w' h => unesc_to av uv w' h (by omega) huv)
      have HTP : Hid (∀ w' : World, Calls Tryd.prog 38 #[.string (S r2), .string ⟨#[32]⟩] w' fun e w'' => e = .returned (.string (S r3)) ∧ w' = w'') := Lib.hid (fun w' => by rw [← hr3]; exact trimPrefix_to r2 w')
      have HREST : Hid (all = (ps ++ [(an, uv)]) ++ Xm.attrsL r3) := Lib.hid (by rw [hge.rest, hstep]; simp)
      have hpl : ps.length + 1 ≤ 16777217 := by omega
      have h63 : ps.length + 1 ≤ maxLen := by unfold maxLen; omega
      obtain ⟨wA, hwA⟩ : ∃ wA, wA = wr.alloc (.cells #[.string ⟨#[]⟩, .string ⟨#[]⟩] 38) := ⟨_, rfl⟩
      obtain ⟨gp, hgp⟩ : ∃ gp, gp = wr.heap.size := ⟨_, rfl⟩
      have hT0 : GT w1 g gp nm tx (.string ⟨#[]⟩) (.string ⟨#[]⟩) A cap ps wA := by
        rw [hwA, hgp]
        exact ⟨hge.box.alloc _, heap_alloc_new wr _, hge.row.alloc _, hge.bel.alloc (Nat.le_of_lt hge.box.lt) _, hge.box.lt, fun k hk => (World.ownsRow.lt hge.row k hk).2⟩
      have hEA : EnvX wA := (hE.next hbw1).keepB hT0.bel (by have := hE.two; omega) hT0.bel.size
      have HWA := Lib.hid hwA
      have HGP := Lib.hid hgp
      clear hc1 hc2 huv hr3 e1 e2 e3 hstep hge hwA hgp hr hB41
      go_wp2_with fail
      rw [← HWA.out, ← HGP.out]
      refine (HC1.out wA hEA).mono ?_
      rintro e w5 ⟨rfl, hb5⟩
      have hT5 := hT0.next hb5
      have hE5 := hEA.next hb5
      clear hT0 hb5 hEA
      have p0 := hT5.pair.c0
      have pf0 := hT5.pair.fr 0
      have hT5' := hT5.set0 (.string (S an))
      have hE5' : EnvX (w5.setCell ⟨gp, 0, none⟩ (.string (S an))) := hE5.keepB ((Below.refl g w5).setCell (p := ⟨gp, 0, none⟩) (Nat.le_of_lt hT5.lt) _) (by have := hE.two; omega) (by simp)
      have HT5 := Lib.hid hT5'
      have HE5 := Lib.hid hE5'
      clear hT5 hT5' hE5 hE5'
      go_wp2_with fail
      refine (HC2.out _ HE5.out).mono ?_
      rintro e w6 ⟨rfl, hb6⟩
      have hT6 := HT5.out.next hb6
      have hE6 := HE5.out.next hb6
      clear hb6
      have p1 := hT6.pair.c1
      have pf1 := hT6.pair.fr 1
      have HT6 := Lib.hid (hT6.set1 (.string (S av)))
      have HE6 : Hid (EnvX (w6.setCell ⟨gp, 1, none⟩ (.string (S av)))) := Lib.hid (hE6.keepB ((Below.refl g w6).setCell (p := ⟨gp, 1, none⟩) (Nat.le_of_lt hT6.lt) _) (by have := hE.two; omega) (by simp))
      have p2 := HT6.out.pair.c1
      clear hT6 hE6 p0 pf0
      go_wp2_with fail
      refine (HU2.out _ HE6.out).mono ?_
      rintro e w7 ⟨⟨c7, rfl⟩, hb7⟩
      have hT7 := HT6.out.next hb7
      clear hb7 p1 pf1 p2
      have p1 := hT7.pair.c1
      have pf1 := hT7.pair.fr 1
      have hT8 := hT7.set1 (.string (S uv))
      obtain ⟨w8, hw8⟩ : ∃ w8, w8 = w7.setCell ⟨gp, 1, none⟩ (.string (S uv)) := ⟨_, rfl⟩
      rw [← hw8] at hT8
      have HW8 := Lib.hid hw8
      clear hw8 hT7
      go_wp2_with fail
      rw [← HW8.out]
      refine (HTP.out _).mono ?_
      rintro e w' ⟨rfl, rfl⟩
      clear p1 pf1
      have a0 := hT8.box.c1
      have q0 := hT8.pair.c0
      have q1 := hT8.pair.c1
      have hlt8 := hT8.box.lt
      have hB9 := fun o => hT8.box.alloc (o := o)
      have hown9 := hT8.row.alloc (.cells #[.string (S an), .string (S uv)] 38)
      have hlt9 := fun k hk => (World.ownsRow.lt hT8.row k hk).1
      have hbe8 := hT8.bel
      go_wp2_with (at_builtin; refine wpList_append_lies _ rfl (.tmp 50) (.tmp 52) _ rfl (g + 1) 38 i0 _ 2 32 Tryd.underlying23 hi0 hz0 hz1 hz2 rfl (by omega) _ ps.length (cells2 ps) rfl hown9 ⟨w8.heap.size, 0, none⟩ 1 1 [.string (S an), .string (S uv)] rfl rfl (World.news_of_block (cs := #[.string (S an), .string (S uv)]) (t := 38) (fr := (0, 0)) (heap_alloc_new w8 _)) (by simp [Value.oneCell']) (by omega) h63 (by omega) (by simp; omega) (w8.heap.size + 1) (by simp) ?_; intro gg cap2 w9 hown10 hgrow hat hlt10; have hB10 := (hB9 (.cells #[.string (S an), .string (S uv)] 38)).grown hgrow (fun e => by have := hlt9 g e; omega); have b1 := hB10.c1; have bf1 := hB10.fr 1)
      have hbe9 : Below g w1 w9 := (hbe8.alloc (Nat.le_of_lt hlt8) _).grown hgrow (by simp; omega) (fun k hk => by have := hlt9 k hk; omega)
      go_roundw
      case rel =>
        refine ⟨r3, some ⟨gg, 0, none⟩, cap2, ps ++ [(an, uv)], rfl, ⟨by simp; omega, HREST.out, ?_, ?_, hbe9.setCell (p := ⟨g, 1, none⟩) (Nat.le_refl _) _⟩⟩
        · have := hB10.set1 (.slice (some ⟨gg, 0, none⟩) (ps.length + 1) cap2)
          simpa using this
        · have hp := prow_snoc (q := (an, uv)) hown10
          refine own_set_ne hp (fun e => ?_) _
          have := (World.ownsRow.lt hp g e).1
          omega
      case measure =>
        show r3.length < r.length
        exact hless
end Go.Proofs.YtpleaopefngafaaDoor
