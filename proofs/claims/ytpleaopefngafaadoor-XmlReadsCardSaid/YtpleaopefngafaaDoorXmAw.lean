/- What is written of an element: write of package xml into a builder, for any element that reads as a tree below the call, if the text has at most 2^26 bytes. -/
import Derived.Test.YtpleaopefngafaaDoorXmAu
import Derived.Test.YtpleaopefngafaaDoorXmBd
import Derived.Deep.RegionHeld3
import Derived.Deep.Cut
namespace Go.Proofs.YtpleaopefngafaaDoor
set_option maxRecDepth 8000
open Go.RowKit

theorem EnvX.keepB {w w' : World} {B : Nat} (h : EnvX w) (hb : Below B w w') (h0 : 2 ≤ B) (hs : w.heap.size ≤ w'.heap.size) : EnvX w' := by
  have hlt := h.lt
  refine ⟨?_, ?_, Nat.lt_of_lt_of_le hlt.1 hs, Nat.lt_of_lt_of_le hlt.2 hs⟩
  · obtain ⟨m, hm⟩ := h.big
    exact ⟨m, (hb.cell (p := ⟨1, 0, none⟩) (by show 1 < B; omega)).trans hm⟩
  · have he := h.esc
    unfold World.rangeAt at he ⊢
    intro j u hj
    exact (hb.cell (p := ⟨0, 0 + j, none⟩) (by show 0 < B; omega)).trans (he j u hj)
/-- The builder in block b holds acc, the element's box lies in block g, and below base nothing has turned. -/
structure WSt (W : World) (base b g : Nat) (cs : Array Value) (acc : List UInt8) (w : World) : Prop where
  bld : Bld base b acc w
  box : w.heap[g]? = some (.cells cs 26 (0, 0))
  bel : Below base W w
theorem WSt.write {W : World} {base b g : Nat} {cs : Array Value} {acc : List UInt8} {w : World} (h : WSt W base b g cs acc w) (hW : base ≤ W.heap.size) (s : List UInt8) (hl : acc.length + s.length ≤ 1099511627776) :
    Calls Tryd.prog 32 #[.pointer (some ⟨b, 0, none⟩), .string (S s)] w fun e w' => e = .returned (.tuple #[.int .i64 ((S s).size : Int), .nilIface]) ∧ WSt W base b g cs (acc ++ s) w' ∧ Keeps2 w w' :=
  (writeString_any base b acc s w h.bld hl (Nat.le_trans hW h.bel.size)).mono fun _ _ ⟨he, hb, hbe, hk⟩ => ⟨he, ⟨hb, hk _ _ _ (by decide) (by decide) h.box, h.bel.trans hbe⟩, hk⟩
theorem WSt.next {W : World} {base b g : Nat} {cs : Array Value} {acc : List UInt8} {w w' : World} (h : WSt W base b g cs acc w) (hb : Below w.heap.size w w') (hW : base ≤ W.heap.size) : WSt W base b g cs acc w' :=
  ⟨h.bld.below hb, (hb.block g (blk_lt h.box)).trans h.box, h.bel.trans (hb.mono (Nat.le_trans hW h.bel.size))⟩
theorem attrsS_snoc (l : List Pct.PairL) (p : Pct.PairL) : Xm.attrsS (l ++ [p]) = Xm.attrsS l ++ Xm.attrS p := by unfold Xm.attrsS; simp
theorem wr_eq (n : Xm.N) : Xm.wr n = 60 :: n.name ++ Xm.attrsS n.attrs ++ (62 :: Xm.escape n.text) ++ n.kids.flatMap Xm.wr ++ (60 :: 47 :: (n.name ++ [62])) := by
  have hL : ∀ ks : List Xm.N, Xm.wrL ks = ks.flatMap Xm.wr := by
    intro ks
    induction ks with
    | nil => rw [Xm.wrL]; rfl
    | cons k ks ih => rw [Xm.wrL, ih, List.flatMap_cons]
  cases n with
  | mk nm ats tx ks =>
    rw [Xm.wr, hL]
    show _ = 60 :: nm ++ Xm.attrsS ats ++ (62 :: Xm.escape tx) ++ ks.flatMap Xm.wr ++ (60 :: 47 :: (nm ++ [62]))
    simp
theorem escape_le (l : List UInt8) : l.length ≤ (Xm.escape l).length := by
  induction l with
  | nil => simp
  | cons c l ih =>
    have e : Xm.escape (c :: l) = Xm.esc1 c ++ Xm.escape l := by unfold Xm.escape; rw [List.flatMap_cons]
    have h1 : 1 ≤ (Xm.esc1 c).length := by
      have hall : ∀ n : Nat, n < 256 → decide (1 ≤ (Xm.esc1 (UInt8.ofNat n)).length) = true := by decide +kernel
      have := Xm.byte_all (P := fun c => decide (1 ≤ (Xm.esc1 c).length)) hall c
      simpa using this
    rw [e, List.length_append, List.length_cons]
    omega

def AtRel (W : World) (base b g : Nat) (cs : Array Value) (acc : List UInt8) (n : Xm.N) (i : Value) (wr : World) : Prop :=
  ∃ k : Nat, k ≤ n.attrs.length ∧ i = .int .i64 (k : Int) ∧ WSt W base b g cs (acc ++ (60 :: n.name) ++ Xm.attrsS (n.attrs.take k)) wr
def KdRel (W : World) (base b g : Nat) (cs : Array Value) (ad : List UInt8) (n : Xm.N) (m : Nat) (i : Value) (wr : World) : Prop :=
  ∃ k : Nat, k ≤ m ∧ i = .int .i64 (k : Int) ∧ WSt W base b g cs (ad ++ (n.kids.take k).flatMap Xm.wr) wr

set_option maxHeartbeats 4000000 in
theorem write_any (M : Nat) : ∀ (n : Xm.N), Xm.size n ≤ M → ∀ (base b : Nat) (acc : List UInt8) (v : Value) (w : World), EnvX w → 2 ≤ base → base ≤ w.heap.size → Tr w base n v → All (Lim 1099511627776) n → acc.length + (Xm.wr n).length ≤ 268435455 → Bld base b acc w →
    Calls Tryd.prog 20 #[.pointer (some ⟨b, 0, none⟩), v] w fun e w' => e = .returned (.tuple #[]) ∧ Bld base b (acc ++ Xm.wr n) w' ∧ Below base w w' ∧ Keeps2 w w' := by
  induction M with
  | zero =>
    intro n hM
    exfalso
    cases n with
    | mk nm ats tx ks => rw [Xm.size] at hM; omega
  | succ M ih =>
    intro n hM base b acc v w hE h2 hbase ht hL hlen hbld
    obtain ⟨A, ca, K, ck, hv, hpc, hkids⟩ := ht.form
    subst hv
    unfold nV
    have hh := hL.here
    have hwr := wr_eq n
    have hlw : (Xm.wr n).length = 1 + n.name.length + (Xm.attrsS n.attrs).length + (1 + (Xm.escape n.text).length) + (n.kids.flatMap Xm.wr).length + (2 + n.name.length + 1) := by
      rw [hwr]
      simp
      omega
    have hetl := escape_le n.text
    obtain ⟨m, hm⟩ : ∃ m, n.kids.length = m := ⟨_, rfl⟩
    have hm63 : m ≤ 1099511627776 := by have := hh.2.1; omega
    obtain ⟨na, hna⟩ : ∃ m, n.attrs.length = m := ⟨_, rfl⟩
    have hna63 : na ≤ 1099511627776 := by have := hh.1; omega
    rw [hm, hna]
    have HM := Lib.hid hm
    have HNA := Lib.hid hna
    have HWR := Lib.hid hwr
    have HLW := Lib.hid hlw
    clear hm hna hwr hlw
    obtain ⟨cs, hcs⟩ : ∃ cs : Array Value, cs = #[.string (S n.name), .slice A na ca, .string (S n.text), .slice K m ck] := ⟨_, rfl⟩
    obtain ⟨g, hg⟩ : ∃ g, g = w.heap.size := ⟨_, rfl⟩
    obtain ⟨W0, hW0⟩ : ∃ W0, W0 = w.alloc (.cells #[.string (S n.name), .slice A na ca, .string (S n.text), .slice K m ck] 26) := ⟨_, rfl⟩
    have st0 : WSt w base b g cs acc W0 := by
      rw [hW0, hg, hcs]
      exact ⟨hbld.below ((Below.refl _ _).alloc (Nat.le_refl _) _), heap_alloc_new w _, (Below.refl _ _).alloc hbase _⟩
    have hcell : ∀ wx : World, wx.heap[g]? = some (.cells cs 26 (0, 0)) → wx.cell? ⟨g, 0, none⟩ = some (.string (S n.name)) ∧ wx.cell? ⟨g, 1, none⟩ = some (.slice A na ca) ∧ wx.cell? ⟨g, 2, none⟩ = some (.string (S n.text)) ∧ wx.cell? ⟨g, 3, none⟩ = some (.slice K m ck) := by
      intro wx hx
      refine ⟨?_, ?_, ?_, ?_⟩ <;> (rw [cell_of_row wx g _ cs 26 (0, 0) hx, hcs]; rfl)
    have HCELL := Lib.hid hcell
    have HW0 := Lib.hid hW0
    have HG := Lib.hid hg
    have HK0 : Hid (Keeps2 w W0) := Lib.hid (by rw [hW0]; exact keeps_alloc w _)
    obtain ⟨b0, b1, b2, b3⟩ := hcell W0 st0.box
    have a1 : ∀ w' : World, (Op.stringOp .add ⟨#[60]⟩ (S n.name)).run Tryd.prog w' = .ok (.string (S (60 :: n.name))) w' := fun w' => run_add_S w' [60] n.name (by have := HLW.out; simp; omega)
    have HA1 := Lib.hid a1
    have HHH := Lib.hid hh
    clear hcell hW0 hg hcs a1 hh
    go_enter Tryd.func20, Tryd.ntmps20
    have a1 := HA1.out
    go_wp2_with fail
    rw [← HW0.out, ← HG.out]
    clear a1 b0 b1 b2 b3
    refine (st0.write hbase (60 :: n.name) (by have := HLW.out; simp; omega)).mono ?_
    rintro e w1 ⟨rfl, st1, hk1⟩
    have HK1 : Hid (Keeps2 w w1) := Lib.hid (HK0.out.trans hk1)
    obtain ⟨b0, b1, b2, b3⟩ := HCELL.out w1 st1.box
    clear st0 hk1
    go_wp2_with fail
    go_loopw [16] (fun i wr => AtRel w base b g cs acc n i wr ∧ Keeps2 w wr) (fun i _ => na - (intOf i).toNat)
    case atStart => exact ⟨⟨0, Nat.zero_le _, rfl, by rw [List.take_zero, show Xm.attrsS [] = [] from rfl, List.append_nil]; exact st1⟩, HK1.out⟩
    case round =>
      obtain ⟨⟨k, hk, rfl, st⟩, hkr⟩ := hrel
      have HKR := Lib.hid hkr
      clear st1 hkr b0 b1 b2 b3
      have hnal := HNA.out
      by_cases hlt : k < na
      · have hkl : k < n.attrs.length := by omega
        obtain ⟨ab, off, rfl, hbb, hcl⟩ := hpc (by omega)
        obtain ⟨e0, e1⟩ := hcl k hkl
        have HSN := Lib.hid (show Xm.attrsS (n.attrs.take (k + 1)) = Xm.attrsS (n.attrs.take k) ++ Xm.attrS n.attrs[k] by rw [List.take_succ_eq_append_getElem hkl, attrsS_snoc])
        have HLE : Hid ((Xm.attrsS (n.attrs.take k)).length + (Xm.attrS n.attrs[k]).length ≤ (Xm.attrsS n.attrs).length) := Lib.hid (by
          have : n.attrs = n.attrs.take k ++ (n.attrs[k] :: n.attrs.drop (k + 1)) := by
            rw [← List.drop_eq_getElem_cons hkl, List.take_append_drop]
          have h2 : (Xm.attrsS n.attrs).length = (Xm.attrsS (n.attrs.take k)).length + ((Xm.attrS n.attrs[k]).length + (Xm.attrsS (n.attrs.drop (k + 1))).length) := by
            conv => lhs; rw [this]
            unfold Xm.attrsS
            rw [List.flatMap_append, List.flatMap_cons]
            simp
          omega)
        obtain ⟨p, hp⟩ : ∃ p, p = n.attrs[k] := ⟨_, rfl⟩
        rw [← hp] at e0 e1 HSN HLE
        obtain ⟨nm, vl⟩ := p
        have c0 : wr.cell? ⟨ab, off + k * 2, none⟩ = some (.string (S nm)) := (st.bel.cell (p := ⟨ab, off + k * 2, none⟩) hbb).trans e0
        have c1 : wr.cell? ⟨ab, off + k * 2 + 1, none⟩ = some (.string (S vl)) := (st.bel.cell (p := ⟨ab, off + k * 2 + 1, none⟩) hbb).trans e1
        have j0 : (0 : Int) ≤ (k : Int) := by omega
        have j1 : (k : Int) < (na : Int) := by omega
        have hvl := escape_le vl
        have hap : (Xm.attrS (nm, vl)).length = 1 + nm.length + 2 + (Xm.escape vl).length + 1 := by unfold Xm.attrS; simp; omega
        obtain ⟨ac, hac⟩ : ∃ ac, ac = acc ++ (60 :: n.name) ++ Xm.attrsS (n.attrs.take k) := ⟨_, rfl⟩
        have hacl : ac.length + (Xm.attrS (nm, vl)).length ≤ 268435455 := by
          rw [hac]
          have := HLW.out
          have := HLE.out
          simp
          omega
        rw [← hac] at st
        have HAC := Lib.hid hac
        clear e0 e1 hcl hp hnal hac
        obtain ⟨wa, hwa⟩ : ∃ wa, wa = wr.alloc (.cells #[.string (S nm), .string (S vl)] 38) := ⟨_, rfl⟩
        obtain ⟨ga, hga⟩ : ∃ ga, ga = wr.heap.size := ⟨_, rfl⟩
        have sta : WSt w base b g cs ac wa := by rw [hwa]; exact st.next ((Below.refl _ _).alloc (Nat.le_refl _) _) hbase
        have hHa : wa.heap[ga]? = some (.cells #[.string (S nm), .string (S vl)] 38 (0, 0)) := by rw [hwa, hga]; exact heap_alloc_new wr _
        have hka : Keeps2 w wa := by rw [hwa]; exact HKR.out.trans (keeps_alloc wr _)
        have g0 : wa.cell? ⟨ga, 0, none⟩ = some (.string (S nm)) := by rw [cell_of_row wa ga 0 _ _ _ hHa]; rfl
        have g1 : wa.cell? ⟨ga, 1, none⟩ = some (.string (S vl)) := by rw [cell_of_row wa ga 1 _ _ _ hHa]; rfl
        have hgal : ga < wa.heap.size := blk_lt hHa
        have HWA := Lib.hid hwa
        have HGA := Lib.hid hga
        have hEa : EnvX wa := hE.keepB sta.bel h2 sta.bel.size
        clear hwa hga st
        have s1 : ∀ w' : World, (Op.stringOp .add ⟨#[32]⟩ (S nm)).run Tryd.prog w' = .ok (.string (S (32 :: nm))) w' := fun w' => run_add_S w' [32] nm (by simp; omega)
        obtain ⟨y1, hy1⟩ : ∃ y, y = 32 :: nm := ⟨_, rfl⟩
        have hy1l : y1.length = 1 + nm.length := by rw [hy1]; simp; omega
        have s2 : ∀ w' : World, (Op.stringOp .add (S y1) ⟨#[61, 34]⟩).run Tryd.prog w' = .ok (.string (S (y1 ++ [61, 34]))) w' := fun w' => run_add_S w' y1 [61, 34] (by simp; omega)
        obtain ⟨y2, hy2⟩ : ∃ y, y = y1 ++ [61, 34] := ⟨_, rfl⟩
        have hy2l : y2.length = 3 + nm.length := by rw [hy2]; simp; omega
        obtain ⟨ev, hev⟩ : ∃ ev, ev = Xm.escape vl := ⟨_, rfl⟩
        have hEV : ∀ w', EnvX w' → Calls Tryd.prog 33 #[.string (S vl)] w' fun e w'' => e = .returned (.string (S ev)) ∧ Below w'.heap.size w' w'' := by
          intro w' he
          rw [hev]
          exact escape_any vl w' he (by omega)
        rw [← hev] at hap hvl
        have s3 : ∀ w' : World, (Op.stringOp .add (S y2) (S ev)).run Tryd.prog w' = .ok (.string (S (y2 ++ ev))) w' := fun w' => run_add_S w' y2 ev (by omega)
        obtain ⟨y3, hy3⟩ : ∃ y, y = y2 ++ ev := ⟨_, rfl⟩
        have hy3l : y3.length = 3 + nm.length + ev.length := by rw [hy3, List.length_append]; omega
        have s4 : ∀ w' : World, (Op.stringOp .add (S y3) ⟨#[34]⟩).run Tryd.prog w' = .ok (.string (S (y3 ++ [34]))) w' := fun w' => run_add_S w' y3 [34] (by simp; omega)
        obtain ⟨y4, hy4⟩ : ∃ y, y = y3 ++ [34] := ⟨_, rfl⟩
        have hy4a : Hid (y4 = Xm.attrS (nm, vl)) := Lib.hid (by rw [hy4, hy3, hy2, hy1, hev]; unfold Xm.attrS; simp)
        have hy4l : ac.length + y4.length ≤ 1099511627776 := by rw [hy4a.out]; omega
        rw [← hy1] at s1
        rw [← hy2] at s2
        rw [← hy3] at s3
        rw [← hy4] at s4
        have HEV := Lib.hid hEV
        have HAL := Lib.hid (And.intro hap hacl)
        clear hy1 hy2 hy3 hy4 hev hEV hy1l hy2l hy3l hap hacl hvl
        go_upto_region 5 with (fail)
        rw [← HWA.out, ← HGA.out]
        go_region_held3 (fun w' => w'.cell? ⟨ga, 0, none⟩ = some (.string (S nm)) ∧ w'.cell? ⟨ga, 1, none⟩ = some (.string (S vl)))
          (first
            | exact hS6
            | exact hS5
            | exact ⟨g0, g1⟩)
          (first
            | (go_at_call 33; refine (HEV.out _ (hEa.next (Below.drew (Below.refl _ _)))).mono ?_; rintro e w5 ⟨rfl, hb5'⟩; have hb5 : Below wa.heap.size wa w5 := (Below.drew (Below.refl wa.heap.size wa)).trans hb5'; have st5 := sta.next hb5 hbase; have hH5 := (hb5.block ga hgal).trans hHa; have hk5 : Keeps2 w w5 := hka.trans (keeps_below hb5); have hS5 : w5.cell? ⟨ga, 0, none⟩ = some (.string (S nm)) ∧ w5.cell? ⟨ga, 1, none⟩ = some (.string (S vl)) := ⟨(hb5.cell (p := ⟨ga, 0, none⟩) hgal).trans g0, (hb5.cell (p := ⟨ga, 1, none⟩) hgal).trans g1⟩; clear hb5' hb5)
            | (go_at_call 32; refine (st5.write hbase y4 hy4l).mono ?_; rintro e w6 ⟨rfl, st6, hk6'⟩; have hk6 : Keeps2 w w6 := hk5.trans hk6'; have hH6 := hk6' _ _ _ (by decide) (by decide) hH5; have hS6 : w6.cell? ⟨ga, 0, none⟩ = some (.string (S nm)) ∧ w6.cell? ⟨ga, 1, none⟩ = some (.string (S vl)) := ⟨by rw [cell_of_row w6 ga 0 _ _ _ hH6]; rfl, by rw [cell_of_row w6 ga 1 _ _ _ hH6]; rfl⟩))
        go_wp2_with fail
        go_roundw
        case rel =>
          refine ⟨⟨k + 1, by have := HNA.out; omega, by go_num, ?_⟩, hk6⟩
          have e : ac ++ y4 = acc ++ (60 :: n.name) ++ Xm.attrsS (n.attrs.take (k + 1)) := by rw [HAC.out, hy4a.out, HSN.out, List.append_assoc (acc ++ (60 :: n.name))]
          rw [← e]
          exact st6
        case measure => simp [intOf]; omega
      · have hfull : n.attrs.take k = n.attrs := List.take_of_length_le (by omega)
        rw [hfull] at st
        obtain ⟨ac, hac⟩ : ∃ ac, ac = acc ++ (60 :: n.name) ++ Xm.attrsS n.attrs := ⟨_, rfl⟩
        rw [← hac] at st
        have hacl : ac.length = acc.length + (1 + n.name.length) + (Xm.attrsS n.attrs).length := by rw [hac]; simp; omega
        have HAC := Lib.hid hac
        have HACL := Lib.hid hacl
        clear hfull hnal hac hacl
        obtain ⟨b0, b1, b2, b3⟩ := HCELL.out wr st.box
        have hEr : EnvX wr := hE.keepB st.bel h2 st.bel.size
        obtain ⟨ev, hev⟩ : ∃ ev, ev = Xm.escape n.text := ⟨_, rfl⟩
        have HEV : Hid (Calls Tryd.prog 33 #[.string (S n.text)] wr fun e w'' => e = .returned (.string (S ev)) ∧ Below wr.heap.size wr w'') := Lib.hid (by
          rw [hev]
          exact escape_any n.text wr hEr (by have := HLW.out; omega))
        have hevl : ev.length = (Xm.escape n.text).length := by rw [hev]
        have s1 : ∀ w' : World, (Op.stringOp .add ⟨#[62]⟩ (S ev)).run Tryd.prog w' = .ok (.string (S (62 :: ev))) w' := fun w' => run_add_S w' [62] ev (by have := HLW.out; simp; omega)
        obtain ⟨y1, hy1⟩ : ∃ y, y = 62 :: ev := ⟨_, rfl⟩
        have hy1l : ac.length + y1.length ≤ 268435455 := by
          have := HLW.out
          have := HACL.out
          rw [hy1, List.length_cons]
          omega
        have HY1 : Hid (y1 = 62 :: Xm.escape n.text) := Lib.hid (by rw [hy1, hev])
        rw [← hy1] at s1
        clear hy1 hev hevl hetl
        go_wp2_with fail
        refine HEV.out.mono ?_
        rintro e w2 ⟨rfl, hb2⟩
        have st2 := st.next hb2 hbase
        have hk2 : Keeps2 w w2 := HKR.out.trans (keeps_below hb2)
        clear hb2 st b0 b1 b2 b3
        obtain ⟨b0, b1, b2, b3⟩ := HCELL.out w2 st2.box
        go_wp2_with fail
        refine (st2.write hbase y1 (by omega)).mono ?_
        rintro e w3 ⟨rfl, st3, hk3'⟩
        have hk3 := hk2.trans hk3'
        clear hk3' st2 b0 b1 b2 b3 hk2
        obtain ⟨b0, b1, b2, b3⟩ := HCELL.out w3 st3.box
        obtain ⟨ad, had⟩ : ∃ ad, ad = ac ++ y1 := ⟨_, rfl⟩
        rw [← had] at st3
        have HAD : Hid (ad = acc ++ (60 :: n.name) ++ Xm.attrsS n.attrs ++ (62 :: Xm.escape n.text)) := Lib.hid (by rw [had, HAC.out, HY1.out])
        have HADL : Hid (ad.length = acc.length + (1 + n.name.length) + (Xm.attrsS n.attrs).length + (1 + (Xm.escape n.text).length)) := Lib.hid (by rw [HAD.out]; simp; omega)
        clear had s1 hy1l
        go_wp2_with fail
        go_loopw [41] (fun i wr => KdRel w base b g cs ad n m i wr ∧ Keeps2 w wr) (fun i _ => m - (intOf i).toNat)
        case atStart => exact ⟨⟨0, Nat.zero_le _, rfl, by rw [List.take_zero, List.flatMap_nil, List.append_nil]; exact st3⟩, hk3⟩
        case round =>
          obtain ⟨⟨j, hj, rfl, st⟩, hkr⟩ := hrel
          have HKR2 := Lib.hid hkr
          clear st3 hkr b0 b1 b2 b3 hk3
          have hml := HM.out
          by_cases hlt2 : j < m
          · have hkl : j < n.kids.length := by omega
            obtain ⟨b4, off4, rfl, hbl, htl⟩ := hkids (by omega)
            obtain ⟨A', ca', K', ck', e0, e1, e2, e3, htk⟩ := TrL.get n.kids 0 j hkl htl
            rw [Nat.zero_add] at e0 e1 e2 e3
            have hcel : ∀ q, wr.cell? ⟨b4, q, none⟩ = w.cell? ⟨b4, q, none⟩ := fun q => st.bel.cell (p := ⟨b4, q, none⟩) hbl
            have c0 := (hcel _).trans e0
            have c1 := (hcel _).trans e1
            have c2 := (hcel _).trans e2
            have c3 := (hcel _).trans e3
            have hsz := size_kid hkl
            have HSZ : Hid (Xm.size n.kids[j] ≤ M) := Lib.hid (by omega)
            have HLK := Lib.hid (hL.kid hkl)
            have HSN := Lib.hid (show (n.kids.take (j + 1)).flatMap Xm.wr = (n.kids.take j).flatMap Xm.wr ++ Xm.wr n.kids[j] by
              rw [List.take_succ_eq_append_getElem hkl, List.flatMap_append]; simp)
            have HLE : Hid (((n.kids.take j).flatMap Xm.wr).length + (Xm.wr n.kids[j]).length ≤ (n.kids.flatMap Xm.wr).length) := Lib.hid (by
              have : n.kids = n.kids.take j ++ (n.kids[j] :: n.kids.drop (j + 1)) := by
                rw [← List.drop_eq_getElem_cons hkl, List.take_append_drop]
              have h2 : (n.kids.flatMap Xm.wr).length = ((n.kids.take j).flatMap Xm.wr).length + ((Xm.wr n.kids[j]).length + ((n.kids.drop (j + 1)).flatMap Xm.wr).length) := by
                conv => lhs; rw [this]
                rw [List.flatMap_append, List.flatMap_cons, List.length_append, List.length_append]
              omega)
            obtain ⟨x, hx⟩ : ∃ x, x = n.kids[j] := ⟨_, rfl⟩
            rw [← hx] at htk HSZ HLK HSN HLE c0 c1 c2 c3
            obtain ⟨ae, hae⟩ : ∃ ae, ae = ad ++ (n.kids.take j).flatMap Xm.wr := ⟨_, rfl⟩
            have HAEL : Hid (ae.length + (Xm.wr x).length ≤ 268435455) := Lib.hid (by
              have := HLW.out
              have := HADL.out
              have := HLE.out
              rw [hae, List.length_append]
              omega)
            rw [← hae] at st
            have HAE := Lib.hid hae
            clear hx e0 e1 e2 e3 htl hcel hsz hml hae
            have hk0 : (0 : Int) ≤ (j : Int) := by omega
            have hkI : (j : Int) < (m : Int) := by omega
            obtain ⟨nx, hnx⟩ : ∃ y, y = x.name := ⟨_, rfl⟩
            obtain ⟨ax, hax⟩ : ∃ y, y = x.attrs.length := ⟨_, rfl⟩
            obtain ⟨tx, htx⟩ : ∃ y, y = x.text := ⟨_, rfl⟩
            obtain ⟨kx, hkx⟩ : ∃ y, y = x.kids.length := ⟨_, rfl⟩
            rw [← hnx, ← hax, ← htx, ← hkx] at htk
            rw [← hnx] at c0
            rw [← hax] at c1
            rw [← htx] at c2
            rw [← hkx] at c3
            clear hnx hax htx hkx
            obtain ⟨wa, hwa⟩ : ∃ wa, wa = wr.alloc (.cells #[.string (S nx), .slice A' ax ca', .string (S tx), .slice K' kx ck'] 26) := ⟨_, rfl⟩
            have sta : WSt w base b g cs ae wa := by rw [hwa]; exact st.next ((Below.refl _ _).alloc (Nat.le_refl _) _) hbase
            have hka : Keeps2 w wa := by rw [hwa]; exact HKR2.out.trans (keeps_alloc wr _)
            have htw := Tr.keepB sta.bel (Nat.le_refl _) x _ htk
            have HI := Lib.hid (ih x HSZ.out base b ae _ wa (hE.keepB sta.bel h2 sta.bel.size) h2 (Nat.le_trans hbase sta.bel.size) htw HLK.out HAEL.out sta.bld)
            have HWA := Lib.hid hwa
            unfold nV at HI
            clear hwa htk htw st
            go_wp2_with fail
            rw [← HWA.out]
            refine HI.out.mono ?_
            rintro e w5 ⟨rfl, hbd5, hbl5, hk5⟩
            have st5 : WSt w base b g cs (ae ++ Xm.wr x) w5 := ⟨hbd5, hk5 _ _ _ (by decide) (by decide) sta.box, sta.bel.trans hbl5⟩
            have hk6 := hka.trans hk5
            clear hbd5 hbl5 hk5
            go_wp2_with fail
            go_roundw
            case rel =>
              refine ⟨⟨j + 1, by omega, by go_num, ?_⟩, hk6⟩
              have e : ae ++ Xm.wr x = ad ++ (n.kids.take (j + 1)).flatMap Xm.wr := by rw [HAE.out, HSN.out, List.append_assoc]
              rw [← e]
              exact st5
            case measure => simp [intOf]; omega
          · have hfull : n.kids.take j = n.kids := List.take_of_length_le (by omega)
            rw [hfull] at st
            obtain ⟨ae, hae⟩ : ∃ ae, ae = ad ++ n.kids.flatMap Xm.wr := ⟨_, rfl⟩
            rw [← hae] at st
            have HAEL : Hid (ae.length + (2 + n.name.length + 1) ≤ 268435455) := Lib.hid (by
              have := HLW.out
              have := HADL.out
              rw [hae, List.length_append]
              omega)
            have HAE := Lib.hid hae
            clear hfull hml hae
            obtain ⟨b0, b1, b2, b3⟩ := HCELL.out wr st.box
            have s1 : ∀ w' : World, (Op.stringOp .add ⟨#[60, 47]⟩ (S n.name)).run Tryd.prog w' = .ok (.string (S ([60, 47] ++ n.name))) w' := fun w' => run_add_S w' [60, 47] n.name (by have := HAEL.out; simp; omega)
            obtain ⟨y1, hy1⟩ : ∃ y, y = [60, 47] ++ n.name := ⟨_, rfl⟩
            have hy1l : y1.length = 2 + n.name.length := by rw [hy1]; simp; omega
            have s2 : ∀ w' : World, (Op.stringOp .add (S y1) ⟨#[62]⟩).run Tryd.prog w' = .ok (.string (S (y1 ++ [62]))) w' := fun w' => run_add_S w' y1 [62] (by have := HAEL.out; simp; omega)
            obtain ⟨y2, hy2⟩ : ∃ y, y = y1 ++ [62] := ⟨_, rfl⟩
            have hy2l : y2.length = 3 + n.name.length := by rw [hy2]; simp; omega
            have HY2 : Hid (y2 = 60 :: 47 :: (n.name ++ [62])) := Lib.hid (by rw [hy2, hy1]; simp)
            rw [← hy1] at s1
            rw [← hy2] at s2
            clear hy1 hy2 hy1l
            have hy2L : ae.length + y2.length ≤ 1099511627776 := by have := HAEL.out; omega
            clear hy2l
            go_wp2_with fail
            refine (st.write hbase y2 hy2L).mono ?_
            rintro e w5 ⟨rfl, st5, hk5⟩
            go_wp2_with fail
            go_end0
            refine ⟨rfl, ?_, st5.bel, HKR2.out.trans hk5⟩
            have e : ae ++ y2 = acc ++ Xm.wr n := by
              rw [HAE.out, HAD.out, HY2.out, HWR.out]
              simp
            rw [← e]
            exact st5.bld
end Go.Proofs.YtpleaopefngafaaDoor
