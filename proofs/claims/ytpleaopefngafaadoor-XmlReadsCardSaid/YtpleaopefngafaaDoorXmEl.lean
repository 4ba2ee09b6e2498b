/- The document's reading of an element that stands at a place of a text: element, for texts of at most a million bytes. -/
import Derived.Test.YtpleaopefngafaaDoorXmEs
import Derived.Test.YtpleaopefngafaaDoorXmEq
import Derived.Deep.DeepCutAuto
namespace Go.Proofs.YtpleaopefngafaaDoor
set_option maxRecDepth 8000
open Go.RowKit

theorem at_get {s : ByteArray} {l : List UInt8} (h : s.data.toList = l) {k : Nat} (hk : k < s.size) : l[k]? = some s[k] := by
  subst h
  have hk' : k < s.data.toList.length := hk
  rw [List.getElem?_eq_getElem hk']
  rfl
theorem at_none {s : ByteArray} {l : List UInt8} (h : s.data.toList = l) {k : Nat} (hk : s.size ≤ k) : l[k]? = none := by
  subst h
  have hk' : s.data.toList.length ≤ k := hk
  exact List.getElem?_eq_none hk'
theorem at_lt {s : ByteArray} {l : List UInt8} (h : s.data.toList = l) {k : Nat} {c : UInt8} (hk : l[k]? = some c) : k < s.size := by
  rcases Nat.lt_or_ge k s.size with h1 | h1
  · exact h1
  · rw [at_none h h1] at hk; cases hk
theorem EA.start {w w0 : World} {g6 g8 : Nat} (h6 : BN w0 g6 (.string ⟨#[]⟩) (.slice none 0 0) (.string ⟨#[]⟩) (.slice none 0 0)) (h8 : BN w0 g8 (.string ⟨#[]⟩) (.slice none 0 0) (.string ⟨#[]⟩) (.slice none 0 0))
    (hb : Below w.heap.size w w0) (hle6 : w.heap.size ≤ g6) (hle8 : g6 < g8) (nm : List UInt8) : EA w g6 g8 nm [] none 0 (w0.setCell ⟨g8, 0, none⟩ (.string (S nm))) :=
  ⟨h6.far (by omega) _, h8.set0 _, World.ownsRow_nil _ _ _ _, hb.setCell (p := ⟨g8, 0, none⟩) (by show w.heap.size ≤ g8; omega) _, hle6, hle8⟩
def ARel (w : World) (g6 g8 : Nat) (T : Option (Xm.N × Xm.Bytes)) (D L : Nat) (nm l : List UInt8) (e0 : Nat) (i : Value) (wr : World) : Prop :=
  ∃ (k : Nat) (ps : List Pct.PairL) (A : Option Addr) (cap : Nat), k ≤ l.length ∧ i = .int .i64 (k : Int) ∧ e0 ≤ k ∧ ps.length ≤ k ∧ Xm.AttrsTo T D L nm l ps k ∧ EA w g6 g8 nm ps A cap wr
def KRel (w : World) (g6 g8 : Nat) (T : Option (Xm.N × Xm.Bytes)) (D : Nat) (nm tx : List UInt8) (ps : List Pct.PairL) (l : List UInt8) (A : Option Addr) (ca : Nat) (i : Value) (wr : World) : Prop :=
  ∃ (k : Nat) (ks : List Xm.N) (K : Option Addr) (ck : Nat) (vs : List Value) (G : List Nat), k ≤ l.length ∧ i = .int .i64 (k : Int) ∧ ks.length ≤ k ∧ Xm.KidsTo T D (nm, ps, tx) l ks k ∧ EK w g6 g8 nm tx ps A ca ks K ck vs G wr

set_option maxHeartbeats 16000000 in
theorem element_any (l : List UInt8) (hl : l.length ≤ 1000000) (D : Nat) : ∀ (d k0 : Nat) (w : World), d + D = 9 → k0 ≤ l.length →
    Calls Tryd.prog 14 #[.string (S l), .int .i64 (k0 : Int), .int .i64 (d : Int)] w fun e w' => ElPost (Xm.elP D (l.drop k0)) l.length w e w' := by
  induction D with
  | zero =>
    intro d k0 w hd hk0
    obtain rfl : d = 9 := by omega
    have HT : Hid (Xm.elP 0 (l.drop k0) = none) := Lib.hid rfl
    have hB6 : BN ((w.alloc (.cells #[.string ⟨#[]⟩, .slice none 0 0, .string ⟨#[]⟩, .slice none 0 0] 26)).alloc (.cells #[.string ⟨#[]⟩, .slice none 0 0, .string ⟨#[]⟩, .slice none 0 0] 26)) w.heap.size (.string ⟨#[]⟩) (.slice none 0 0) (.string ⟨#[]⟩) (.slice none 0 0) := BN.alloc (heap_alloc_new w _) _
    have qq0 := hB6.c0
    have qq1 := hB6.c1
    have qq2 := hB6.c2
    have qq3 := hB6.c3
    have HBB : Hid (Below w.heap.size w ((w.alloc (.cells #[.string ⟨#[]⟩, .slice none 0 0, .string ⟨#[]⟩, .slice none 0 0] 26)).alloc (.cells #[.string ⟨#[]⟩, .slice none 0 0, .string ⟨#[]⟩, .slice none 0 0] 26))) := Lib.hid (((Below.refl _ _).alloc (Nat.le_refl _) _).alloc (by simp) _)
    clear hB6
    go_enter Tryd.func14, Tryd.ntmps14
    go_wp2_with fail
    refine bodyPost_ret (v := .tuple #[.agg #[.string ⟨#[]⟩, .slice none 0 0, .string ⟨#[]⟩, .slice none 0 0], .int .i64 (-1)]) ?_ rfl ⟨_, _, _, _, _, _, _, _, _, rfl, HBB.out, by rw [HT.out]; exact rfl⟩
    simp [results, Tryd.results14, go_sem, qq0, qq1, qq2, qq3]
  | succ D ih =>
    intro d k0 w hd hk0
    obtain ⟨T, hTe⟩ : ∃ T, T = Xm.elP (D + 1) (l.drop k0) := ⟨_, rfl⟩
    rw [← hTe]
    obtain ⟨s, hs⟩ : ∃ s, s = S l := ⟨_, rfl⟩
    have hSl : s.data.toList = l := by rw [hs]; exact S_toList l
    have hz : s.size = l.length := by rw [hs]; rfl
    have hz6 : s.size ≤ 1000000 := by omega
    obtain ⟨d1, hd1⟩ : ∃ d1, d1 = d + 1 := ⟨_, rfl⟩
    have HTO : Hid (∀ (c : UInt8) (n : Int) (k e : Nat) (w' : World), (c.toNat : Int) = n → k ≤ s.size → e = k + (Xm.tk c (l.drop k)).length → Calls Tryd.prog 25 #[.string s, .int .i64 (k : Int), .int .u8 n] w' fun e' w'' => e' = .returned (.int .i64 (e : Int)) ∧ w' = w'') := Lib.hid (fun c n k e w' hc hk he => by
      rw [he, hs]
      exact to_any l k (by omega) c n hc w' (by omega))
    have HIH : Hid (∀ (k : Nat) (w' : World), k ≤ s.size → Calls Tryd.prog 14 #[.string s, .int .i64 (k : Int), .int .i64 (d1 : Int)] w' fun e w'' => ElPost (Xm.elP D (l.drop k)) l.length w' e w'') := Lib.hid (fun k w' hk => by
      rw [hs]
      exact ih d1 k w' (by omega) (by omega))
    rw [← hs]
    have HSL := Lib.hid hSl
    have HZ := Lib.hid hz
    have hwd : IntKind.i64.wrap ((d : Int) + 1) = (d1 : Int) := by rw [IntWalk.i64_in _ (by omega)]; omega
    have hd8 : ¬ (8 : Int) < (d : Int) := by omega
    have hks : k0 ≤ s.size := by omega
    have HTE := Lib.hid hTe
    clear hSl ih hs hz hd hd1 hTe hk0
    obtain ⟨i0, hi0, hz0, hz1, hz2⟩ := info_parts Tryd.infoPair
    obtain ⟨i1, hi1, hy0, hy1, hy2⟩ := info_parts Tryd.infoNode
    go_enter Tryd.func14, Tryd.ntmps14
    go_upto_region 2 with (fail)
    obtain ⟨w0, hw0⟩ : ∃ w0, w0 = (w.alloc (.cells #[.string ⟨#[]⟩, .slice none 0 0, .string ⟨#[]⟩, .slice none 0 0] 26)).alloc (.cells #[.string ⟨#[]⟩, .slice none 0 0, .string ⟨#[]⟩, .slice none 0 0] 26) := ⟨_, rfl⟩
    obtain ⟨g6, hg6⟩ : ∃ g6, g6 = w.heap.size := ⟨_, rfl⟩
    obtain ⟨g8, hg8⟩ : ∃ g8, g8 = w.heap.size + 1 := ⟨_, rfl⟩
    rw [← hw0, ← hg8, ← hg6]
    have hb0 : Below w.heap.size w w0 := by rw [hw0]; exact ((Below.refl _ _).alloc (Nat.le_refl _) _).alloc (by simp) _
    have h6 : BN w0 g6 (.string ⟨#[]⟩) (.slice none 0 0) (.string ⟨#[]⟩) (.slice none 0 0) := by rw [hw0, hg6]; exact BN.alloc (heap_alloc_new w _) _
    have h8 : BN w0 g8 (.string ⟨#[]⟩) (.slice none 0 0) (.string ⟨#[]⟩) (.slice none 0 0) := by
      rw [hw0, hg8]
      have := heap_alloc_new (w.alloc (.cells #[.string ⟨#[]⟩, .slice none 0 0, .string ⟨#[]⟩, .slice none 0 0] 26)) (.cells #[.string ⟨#[]⟩, .slice none 0 0, .string ⟨#[]⟩, .slice none 0 0] 26)
      simpa [BN] using this
    have hle6 : w.heap.size ≤ g6 := by omega
    have hle8 : g6 < g8 := by omega
    clear hw0 hg6 hg8
    obtain ⟨b0, hb0e⟩ : ∃ b : Bool, b = !decide (l[k0]? = some 60) := ⟨_, rfl⟩
    have HB0 := Lib.hid hb0e
    clear hb0e
    go_cut [33] (fun t wx => t = .bool b0 ∧ wx = w0)
    case first => as_aux_lemma =>
      by_cases hlt : k0 < s.size
      · by_cases hc : s[k0] = 60
        · have e0 : (((s[k0]).toNat : Int) != 60) = false := by rw [hc]; rfl
          have hbv : b0 = false := by rw [HB0.out, at_get HSL.out hlt, hc]; rfl
          subst hbv
          clear hc
          go_wp2_with fail
          go_meet
          first | exact ⟨rfl, rfl⟩ | exact ⟨congrArg Value.bool (by first | rfl | (simp; done) | (simp; omega)), rfl⟩
        · have e0 : (((s[k0]).toNat : Int) != 60) = true := bne_iff_ne.2 fun e => hc (Pct.u8_eq (by show (s[k0]).toNat = 60; omega))
          have hbv : b0 = true := by rw [HB0.out, at_get HSL.out hlt]; simp [hc]
          subst hbv
          clear hc
          go_wp2_with fail
          go_meet
          first | exact ⟨rfl, rfl⟩ | exact ⟨congrArg Value.bool (by first | rfl | (simp; done) | (simp; omega)), rfl⟩
      · have hbv : b0 = true := by rw [HB0.out, at_none HSL.out (by omega)]; rfl
        subst hbv
        go_wp2_with fail
        go_meet
        first | exact ⟨rfl, rfl⟩ | exact ⟨congrArg Value.bool (by first | rfl | (simp; done) | (simp; omega)), rfl⟩
    case rest =>
      obtain ⟨hc1, hc2⟩ := hcut
      subst hc1
      replace hc2 := hc2.symm
      subst hc2
      cases b0 with
      | true => as_aux_lemma =>
        have hne : ¬ l[k0]? = some 60 := by have := HB0.out; intro h; rw [h] at this; cases this
        have HTN0 : Hid (T = none) := Lib.hid (HTE.out.trans (Xm.el_bad hne))
        clear hne
        have zz0 := h8.c0
        have zz1 := h8.c1
        have zz2 := h8.c2
        have zz3 := h8.c3
        obtain ⟨cc0, ff0, cc1, ff1, cc2, ff2, cc3, ff3, qq0, qq1, qq2, qq3⟩ := h6.copy (.string ⟨#[]⟩) (.slice none 0 0) (.string ⟨#[]⟩) (.slice none 0 0)
        have HBB := Lib.hid (below_copy hb0 hle6 (.string ⟨#[]⟩) (.slice none 0 0) (.string ⟨#[]⟩) (.slice none 0 0))
        have HTN := Lib.hid HTN0.out
        go_wp2_with fail
        refine bodyPost_ret (v := .tuple #[.agg #[.string ⟨#[]⟩, .slice none 0 0, .string ⟨#[]⟩, .slice none 0 0], .int .i64 (-1)]) ?_ rfl ⟨_, _, _, _, _, _, _, _, _, rfl, HBB.out, by rw [HTN.out]; exact rfl⟩
        simp [results, Tryd.results14, go_sem, qq0, qq1, qq2, qq3]
      | false =>
        have h60 : l[k0]? = some 60 := by have := HB0.out; by_cases h : l[k0]? = some 60; exact h; rw [decide_eq_false h] at this; cases this
        have hlt := at_lt HSL.out h60
        obtain ⟨k1, hk1⟩ : ∃ k1, k1 = k0 + 1 := ⟨_, rfl⟩
        have hw1 : IntKind.i64.wrap ((k0 : Int) + 1) = (k1 : Int) := by rw [IntWalk.i64_in _ (by omega)]; omega
        obtain ⟨E, hE⟩ : ∃ E, E = k0 + 1 + ((l.drop (k0 + 1)).takeWhile Xm.inName).length := ⟨_, rfl⟩
        have HSTART := Lib.hid (Xm.AttrsTo.start (D := D) h60 hE)
        rw [← HTE.out, ← hk1] at HSTART
        rw [← hk1] at hE
        have HE := Lib.hid hE
        have hk1s : k1 ≤ s.size := by omega
        clear h60 hE hlt HB0 hk1
        go_wp2_with fail
        go_loop [9] (fun i => ∃ k : Nat, k1 ≤ k ∧ k ≤ s.size ∧ i = .int .i64 (k : Int) ∧ E = k + ((l.drop k).takeWhile Xm.inName).length) (fun i => s.size - (intOf i).toNat)
        case atStart => exact ⟨k1, Nat.le_refl _, hk1s, rfl, HE.out⟩
        case round =>
          obtain ⟨k, hk1k, hk, rfl, hEk⟩ := hrel
          have HEK := Lib.hid hEk
          clear hEk
          obtain ⟨bn, hbn⟩ : ∃ b : Bool, b = decide (∃ h : k < s.size, Xm.inName s[k] = true) := ⟨_, rfl⟩
          have HBN := Lib.hid hbn
          clear hbn
          go_upto_region 6 with fail
          go_cut [53] (fun t wx => t = .bool bn ∧ wx = w0)
          case first => as_aux_lemma =>
            by_cases hlt : k < s.size
            · by_cases hc : s[k] = 32
              · have e0 : (((s[k]).toNat : Int) != 32) = false := by rw [hc]; rfl
                have hbv : bn = false := by rw [HBN.out]; exact decide_eq_false (fun ⟨_, h⟩ => by rw [hc] at h; cases h)
                subst hbv
                clear hc
                go_wp2_with fail
                go_meet
                first | exact ⟨rfl, rfl⟩ | exact ⟨congrArg Value.bool (by first | rfl | (simp; done) | (simp; omega)), rfl⟩
              · have e0 : (((s[k]).toNat : Int) != 32) = true := bne_iff_ne.2 fun e => hc (Pct.u8_eq (by show (s[k]).toNat = 32; omega))
                by_cases hd : s[k] = 62
                · have e1 : (((s[k]).toNat : Int) != 62) = false := by rw [hd]; rfl
                  have hbv : bn = false := by rw [HBN.out]; exact decide_eq_false (fun ⟨_, h⟩ => by rw [hd] at h; cases h)
                  subst hbv
                  clear hc hd
                  go_wp2_with fail
                  go_meet
                  first | exact ⟨rfl, rfl⟩ | exact ⟨congrArg Value.bool (by first | rfl | (simp; done) | (simp; omega)), rfl⟩
                · have e1 : (((s[k]).toNat : Int) != 62) = true := bne_iff_ne.2 fun e => hd (Pct.u8_eq (by show (s[k]).toNat = 62; omega))
                  have hbv : bn = true := by rw [HBN.out]; exact decide_eq_true ⟨hlt, by unfold Xm.inName; simp [hc, hd]⟩
                  subst hbv
                  clear hc hd
                  go_wp2_with fail
                  go_meet
                  first | exact ⟨rfl, rfl⟩ | exact ⟨congrArg Value.bool (by first | rfl | (simp; done) | (simp; omega)), rfl⟩
            · have hbv : bn = false := by rw [HBN.out]; exact decide_eq_false (fun ⟨h, _⟩ => hlt h)
              subst hbv
              go_wp2_with fail
              go_meet
              first | exact ⟨rfl, rfl⟩ | exact ⟨congrArg Value.bool (by first | rfl | (simp; done) | (simp; omega)), rfl⟩
          case rest =>
            obtain ⟨hc1, hc2⟩ := hcut
            subst hc1
            replace hc2 := hc2.symm
            subst hc2
            cases bn with
            | true => as_aux_lemma =>
              obtain ⟨hlt, hin⟩ := of_decide_eq_true HBN.out.symm
              have HF : Hid (E = k + 1 + ((l.drop (k + 1)).takeWhile Xm.inName).length) := Lib.hid (by
                have hkl : k < l.length := by have := HZ.out; omega
                have hg := at_get HSL.out hlt
                rw [List.getElem?_eq_getElem hkl] at hg
                injection hg with hg
                rw [HEK.out, List.drop_eq_getElem_cons hkl, hg, List.takeWhile_cons, if_pos hin, List.length_cons]
                omega)
              clear hin HBN
              go_wp2_with fail
              go_round
              case rel => exact ⟨k + 1, by omega, by omega, by go_num, HF.out⟩
              case measure => simp [intOf]; omega
            | false =>
              have hnot := of_decide_eq_false HBN.out.symm
              have hEk : E = k := by
                have h0 : (l.drop k).takeWhile Xm.inName = [] := by
                  by_cases hlt : k < s.size
                  · have hkl : k < l.length := by have := HZ.out; omega
                    have hg := at_get HSL.out hlt
                    rw [List.getElem?_eq_getElem hkl] at hg
                    injection hg with hg
                    rw [List.drop_eq_getElem_cons hkl, hg, List.takeWhile_cons, if_neg (fun h => hnot ⟨hlt, h⟩)]
                  · rw [List.drop_eq_nil_of_le (by have := HZ.out; omega)]; rfl
                rw [HEK.out, h0]
                rfl
              obtain ⟨L, hL, hAT⟩ := HSTART.out
              rw [hEk] at hL hAT
              have hX := ext_cut HSL.out hk1k
              obtain ⟨nm, hnm⟩ : ∃ nm, nm = (l.drop k1).take (k - k1) := ⟨_, rfl⟩
              have hnml : nm.length ≤ 1000000 := by
                have h1 : nm.length ≤ (l.drop k1).length := by rw [hnm]; exact List.length_take_le' ..
                rw [List.length_drop] at h1
                omega
              rw [← hnm] at hX hAT
              have hEA := EA.start h6 h8 hb0 hle6 hle8 nm
              have y0 := h8.c0
              have yf0 := h8.fr 0
              have a1 : (k1 : Int) ≤ (k : Int) := by omega
              have a2 : (k : Int) ≤ (s.size : Int) := by omega
              have HAT := Lib.hid hAT
              have HL := Lib.hid hL
              have HEA := Lib.hid hEA
              clear hnot hEk hL hAT hEA hnm HBN HEK HSTART h6 h8 hb0
              go_wp2_with fail
              go_loopw [1] (fun i wr => ARel w g6 g8 T D L nm l k i wr) (fun i _ => l.length - (intOf i).toNat)
              case atStart => exact ⟨k, [], none, 0, by have := HZ.out; omega, rfl, Nat.le_refl _, Nat.zero_le _, HAT.out, HEA.out⟩
              case round =>
                clear HAT HEA y0 yf0 hX
                obtain ⟨k, ps, A, cap, hk, rfl, hek, hpk, hat, hea⟩ := hrel
                have HAT := Lib.hid hat
                clear hat
                have hks : k ≤ s.size := by have := HZ.out; omega
                obtain ⟨ba, hba⟩ : ∃ b : Bool, b = decide (l[k]? = some 32) := ⟨_, rfl⟩
                have HBA := Lib.hid hba
                clear hba
                go_upto_region 10 with fail
                go_cut [71] (fun t wx => t = .bool ba ∧ wx = wr)
                case first => as_aux_lemma =>
                  by_cases hlt : k < s.size
                  · by_cases hc : s[k] = 32
                    · have e0 : (((s[k]).toNat : Int) == 32) = true := by rw [hc]; rfl
                      have hbv : ba = true := by rw [HBA.out, at_get HSL.out hlt, hc]; rfl
                      subst hbv
                      clear hc
                      go_wp2_with fail
                      go_meet
                      first | exact ⟨rfl, rfl⟩ | exact ⟨congrArg Value.bool (by first | rfl | (simp; done) | (simp; omega)), rfl⟩
                    · have e0 : (((s[k]).toNat : Int) == 32) = false := u8_ne (n := 32) 32 rfl hc
                      have hbv : ba = false := by rw [HBA.out, at_get HSL.out hlt]; simp [hc]
                      subst hbv
                      clear hc
                      go_wp2_with fail
                      go_meet
                      first | exact ⟨rfl, rfl⟩ | exact ⟨congrArg Value.bool (by first | rfl | (simp; done) | (simp; omega)), rfl⟩
                  · have hbv : ba = false := by rw [HBA.out, at_none HSL.out (by omega)]; rfl
                    subst hbv
                    go_wp2_with fail
                    go_meet
                    first | exact ⟨rfl, rfl⟩ | exact ⟨congrArg Value.bool (by first | rfl | (simp; done) | (simp; omega)), rfl⟩
                case rest =>
                  obtain ⟨hc1, hc2⟩ := hcut
                  subst hc1
                  replace hc2 := hc2.symm
                  subst hc2
                  cases ba with
                  | true =>
                    have h32 : l[k]? = some 32 := of_decide_eq_true HBA.out.symm
                    have hlt := at_lt HSL.out h32
                    obtain ⟨e, he⟩ : ∃ e, e = k + (Xm.tk 61 (l.drop k)).length := ⟨_, rfl⟩
                    obtain ⟨p1, p2, _, _⟩ := Xm.attr_pos h32 he
                    have hes : e ≤ s.size := by have := HZ.out; omega
                    obtain ⟨e1, he1⟩ : ∃ e1, e1 = e + 1 := ⟨_, rfl⟩
                    obtain ⟨e2, he2⟩ : ∃ e2, e2 = e + 2 := ⟨_, rfl⟩
                    obtain ⟨k1, hk1⟩ : ∃ k1, k1 = k + 1 := ⟨_, rfl⟩
                    have hwe1 : IntKind.i64.wrap ((e : Int) + 1) = (e1 : Int) := by rw [IntWalk.i64_in _ (by omega)]; omega
                    have hwe2 : IntKind.i64.wrap ((e : Int) + 2) = (e2 : Int) := by rw [IntWalk.i64_in _ (by omega)]; omega
                    have hwk1 : IntKind.i64.wrap ((k : Int) + 1) = (k1 : Int) := by rw [IntWalk.i64_in _ (by omega)]; omega
                    obtain ⟨q, hq⟩ : ∃ q, q = e + 2 + (Xm.tk 34 (l.drop (e + 2))).length := ⟨_, rfl⟩
                    have HAA := Lib.hid (Xm.attr_at h32 he hq)
                    have HBAD : Hid (Xm.attrAt (l.drop (k + 1)) = none → T = none) := Lib.hid (fun h => HAT.out.bad h32 h)
                    have HGOOD := Lib.hid (fun (p : Pct.PairL) (k' : Nat) (h : Xm.attrAt (l.drop (k + 1)) = some (p, l.drop k')) (hh : k < k') => HAT.out.good h32 h hh)
                    rw [← he1, ← he2, ← hk1] at HAA
                    rw [← he2] at hq
                    rw [← hk1] at HBAD HGOOD p1
                    have HQ := Lib.hid hq
                    have HE := Lib.hid he
                    have he2s : e1 < s.size → e2 ≤ s.size := by omega
                    have HEE := Lib.hid (And.intro he1 (And.intro he2 hk1))
                    clear h32 HBA HAT hq he p2 he1 he2 hk1
                    obtain ⟨bb, hbb⟩ : ∃ b : Bool, b = !decide (l[e1]? = some 34) := ⟨_, rfl⟩
                    have HBB0 := Lib.hid hbb
                    clear hbb
                    go_wp2_with fail
                    refine (HTO.out 61 61 k e _ rfl hks HE.out).mono ?_
                    rintro _ w' ⟨rfl, rfl⟩
                    go_upto_region 12 with fail
                    go_cut [86] (fun t wx => t = .bool bb ∧ wx = wr)
                    case first => as_aux_lemma =>
                      by_cases hle1 : e1 < s.size
                      · by_cases hc : s[e1] = 34
                        · have e0 : (((s[e1]).toNat : Int) != 34) = false := by rw [hc]; rfl
                          have hbv : bb = false := by rw [HBB0.out, at_get HSL.out hle1, hc]; rfl
                          subst hbv
                          clear hc
                          go_wp2_with fail
                          go_meet
                          first | exact ⟨rfl, rfl⟩ | exact ⟨congrArg Value.bool (by first | rfl | (simp; done) | (simp; omega)), rfl⟩
                        · have e0 : (((s[e1]).toNat : Int) != 34) = true := bne_iff_ne.2 fun e => hc (Pct.u8_eq (by show (s[e1]).toNat = 34; omega))
                          have hbv : bb = true := by rw [HBB0.out, at_get HSL.out hle1]; simp [hc]
                          subst hbv
                          clear hc
                          go_wp2_with fail
                          go_meet
                          first | exact ⟨rfl, rfl⟩ | exact ⟨congrArg Value.bool (by first | rfl | (simp; done) | (simp; omega)), rfl⟩
                      · have hbv : bb = true := by rw [HBB0.out, at_none HSL.out (by omega)]; rfl
                        subst hbv
                        go_wp2_with fail
                        go_meet
                        first | exact ⟨rfl, rfl⟩ | exact ⟨congrArg Value.bool (by first | rfl | (simp; done) | (simp; omega)), rfl⟩
                    case rest =>
                      obtain ⟨hc1, hc2⟩ := hcut
                      subst hc1
                      replace hc2 := hc2.symm
                      subst hc2
                      cases bb with
                      | true => as_aux_lemma =>
                        have hne : ¬ l[e1]? = some 34 := by have := HBB0.out; intro h; rw [h] at this; cases this
                        have HTN0 : Hid (T = none) := Lib.hid (HBAD.out (by rw [HAA.out, if_neg hne]))
                        clear hne
                        have zz0 := hea.b8.c0
                        have zz1 := hea.b8.c1
                        have zz2 := hea.b8.c2
                        have zz3 := hea.b8.c3
                        obtain ⟨cc0, ff0, cc1, ff1, cc2, ff2, cc3, ff3, qq0, qq1, qq2, qq3⟩ := hea.b6.copy (.string (S nm)) (.slice A ps.length cap) (.string ⟨#[]⟩) (.slice none 0 0)
                        have HBB := Lib.hid (below_copy hea.bel hle6 (.string (S nm)) (.slice A ps.length cap) (.string ⟨#[]⟩) (.slice none 0 0))
                        have HTN := Lib.hid HTN0.out
                        go_wp2_with fail
                        refine bodyPost_ret (v := .tuple #[.agg #[.string (S nm), .slice A ps.length cap, .string ⟨#[]⟩, .slice none 0 0], .int .i64 (-1)]) ?_ rfl ⟨_, _, _, _, _, _, _, _, _, rfl, HBB.out, by rw [HTN.out]; exact rfl⟩
                        simp [results, Tryd.results14, go_sem, qq0, qq1, qq2, qq3]
                      | false =>
                        have h34 : l[e1]? = some 34 := by have := HBB0.out; by_cases h : l[e1]? = some 34; exact h; rw [decide_eq_false h] at this; cases this
                        have hle1 := at_lt HSL.out h34
                        have he2z := he2s hle1
                        rw [if_pos h34] at HAA
                        have hqs : e2 ≤ q ∧ q ≤ s.size := by
                          have h1 := Xm.tk_le 34 (l.drop e2)
                          rw [List.length_drop] at h1
                          have := HQ.out
                          have := HZ.out
                          omega
                        clear h34 HBB0 he2s
                        go_wp2_with fail
                        refine (HTO.out 34 34 e2 q _ rfl he2z HQ.out).mono ?_
                        rintro _ w' ⟨rfl, rfl⟩
                        by_cases hqe : q < s.size
                        · rw [if_neg (by have := HZ.out; omega)] at HAA
                          have hX := ext_cut HSL.out hqs.1
                          obtain ⟨x, hx⟩ : ∃ x, x = (l.drop e2).take (q - e2) := ⟨_, rfl⟩
                          rw [← hx] at hX HAA
                          have hX1 := ext_cut HSL.out p1
                          obtain ⟨an, han⟩ : ∃ y, y = (l.drop k1).take (e - k1) := ⟨_, rfl⟩
                          rw [← han] at hX1 HAA
                          have hxl : x.length ≤ 16777216 := by
                            have h1 : x.length ≤ (l.drop e2).length := by rw [hx]; exact List.length_take_le' ..
                            rw [List.length_drop] at h1
                            have := HZ.out
                            omega
                          have a1 : (e2 : Int) ≤ (q : Int) := by omega
                          have a2 : (q : Int) ≤ (s.size : Int) := by omega
                          have a3 : (k1 : Int) ≤ (e : Int) := by omega
                          have a4 : (e : Int) ≤ (s.size : Int) := by omega
                          have HU := Lib.hid (refUnescape_any x wr hxl)
                          clear hx han
                          cases hu : Xm.unescape x with
                          | none => as_aux_lemma =>
                            have HTN0 : Hid (T = none) := Lib.hid (HBAD.out (by rw [HAA.out, hu]; rfl))
                            rw [hu] at HU
                            clear hu
                            unfold toldUn at HU
                            clear hX1
                            go_wp2_with fail
                            refine HU.out.mono ?_
                            rintro _ w2 ⟨rfl, hb2⟩
                            have hea := hea.next hb2
                            clear hX
                            have zz0 := hea.b8.c0
                            have zz1 := hea.b8.c1
                            have zz2 := hea.b8.c2
                            have zz3 := hea.b8.c3
                            obtain ⟨cc0, ff0, cc1, ff1, cc2, ff2, cc3, ff3, qq0, qq1, qq2, qq3⟩ := hea.b6.copy (.string (S nm)) (.slice A ps.length cap) (.string ⟨#[]⟩) (.slice none 0 0)
                            have HBB := Lib.hid (below_copy hea.bel hle6 (.string (S nm)) (.slice A ps.length cap) (.string ⟨#[]⟩) (.slice none 0 0))
                            have HTN := Lib.hid HTN0.out
                            go_wp2_with fail
                            refine bodyPost_ret (v := .tuple #[.agg #[.string (S nm), .slice A ps.length cap, .string ⟨#[]⟩, .slice none 0 0], .int .i64 (-1)]) ?_ rfl ⟨_, _, _, _, _, _, _, _, _, rfl, HBB.out, by rw [HTN.out]; exact rfl⟩
                            simp [results, Tryd.results14, go_sem, qq0, qq1, qq2, qq3]
                          | some v =>
                            obtain ⟨q1, hq1⟩ : ∃ q1, q1 = q + 1 := ⟨_, rfl⟩
                            have hwq1 : IntKind.i64.wrap ((q : Int) + 1) = (q1 : Int) := by rw [IntWalk.i64_in _ (by omega)]; omega
                            have hkq : k < q1 ∧ q1 ≤ s.size := by have := HEE.out; omega
                            have HG : Hid (Xm.AttrsTo T D L nm l (ps ++ [(an, v)]) q1) := Lib.hid (HGOOD.out (an, v) q1 (by rw [HAA.out, hu, hq1]; rfl) hkq.1)
                            rw [hu] at HU
                            clear hu
                            unfold toldUn at HU
                            clear hq1
                            go_wp2_with fail
                            refine HU.out.mono ?_
                            rintro _ w2 ⟨rfl, hb2⟩
                            have hea2 := hea.next hb2
                            clear hX hea
                            have hrow := hea2.row
                            unfold PRow at hrow
                            have B8 := hea2.b8
                            have y1 := B8.c1
                            have hlt8 := B8.lt
                            have hrl := hea2.lt
                            have h33 : ps.length + 1 ≤ maxLen := by unfold maxLen; omega
                            have h34 : (ps.length + 1) * 32 ≤ 140737488355328 := by omega
                            have HEA2 := Lib.hid hea2
                            clear hea2
                            go_upto_region 20 with fail
                            go_region_law ((refine step_append_lies _ (by rfl) _ _ _ (by rfl) (g8 + 1) 38 i0 _ 2 32 Tryd.underlying23 hi0 hz0 hz1 hz2 rfl (by omega) (.slice A ps.length cap) ps.length (cells2 ps) (by rfl) ((hrow.alloc _).drew) ⟨w2.heap.size, 0, none⟩ 1 1 [.string (S an), .string (S v)] (by rfl) (by rfl) (World.news_of_block (cs := #[.string (S an), .string (S v)]) (t := 38) (fr := (0, 0)) (heap_alloc_new w2 _)) (by simp [Value.oneCell']) (by omega) h33 h34 (by simp; omega) (w2.heap.size + 1) (by simp) ?_; intro gg cp w5 hown5 hgrow hat5 hlt5; have B9 : BN w5 g8 (.string (S nm)) (.slice A ps.length cap) (.string ⟨#[]⟩) (.slice none 0 0) := (hgrow.block g8 (by simp; omega) (fun e => by have := (hrl g8 e.symm).1; omega)).trans ((Below.heap_alloc w2 _ g8 hlt8).trans B8); have e5 := B9.c1; have f5 := B9.fr 1))
                            all_goals
                              have hea3 := EA.push (HEA2.out.next (w' := (w2.alloc (.cells #[.string (S an), .string (S v)] 38)).drew) ((Below.refl _ _).alloc (Nat.le_refl _) _).drew) (p := (an, v)) hown5 hgrow
                              have HEA3 := Lib.hid hea3
                              clear hea3 hown5 hgrow
                              go_wp2_with fail
                              go_roundw
                              case rel => exact ⟨q1, ps ++ [(an, v)], some ⟨gg, 0, none⟩, cp, by have := HZ.out; omega, rfl, by omega, by simp; omega, HG.out, HEA3.out⟩
                              case measure => have := HZ.out; simp [intOf]; omega
                        · have HTN0 : Hid (T = none) := Lib.hid (HBAD.out (by rw [HAA.out, if_pos (by have := HZ.out; omega)]))
                          have zz0 := hea.b8.c0
                          have zz1 := hea.b8.c1
                          have zz2 := hea.b8.c2
                          have zz3 := hea.b8.c3
                          obtain ⟨cc0, ff0, cc1, ff1, cc2, ff2, cc3, ff3, qq0, qq1, qq2, qq3⟩ := hea.b6.copy (.string (S nm)) (.slice A ps.length cap) (.string ⟨#[]⟩) (.slice none 0 0)
                          have HBB := Lib.hid (below_copy hea.bel hle6 (.string (S nm)) (.slice A ps.length cap) (.string ⟨#[]⟩) (.slice none 0 0))
                          have HTN := Lib.hid HTN0.out
                          go_wp2_with fail
                          refine bodyPost_ret (v := .tuple #[.agg #[.string (S nm), .slice A ps.length cap, .string ⟨#[]⟩, .slice none 0 0], .int .i64 (-1)]) ?_ rfl ⟨_, _, _, _, _, _, _, _, _, rfl, HBB.out, by rw [HTN.out]; exact rfl⟩
                          simp [results, Tryd.results14, go_sem, qq0, qq1, qq2, qq3]
                  | false => as_aux_lemma =>
                    have hn32 : ¬ l[k]? = some 32 := of_decide_eq_false HBA.out.symm
                    have HAF := Lib.hid (HAT.out.stop hn32)
                    obtain ⟨k3, hk3⟩ : ∃ k3, k3 = k + 1 := ⟨_, rfl⟩
                    obtain ⟨e4, he4⟩ : ∃ e4, e4 = k + 1 + (Xm.tk 60 (l.drop (k + 1))).length := ⟨_, rfl⟩
                    have HAT4 := Lib.hid (fun (h : l[k]? = some 62) => Xm.after_at (D := D) (L := L) (nm := nm) (ps := ps) h he4)
                    rw [← hk3] at he4 HAT4
                    have HE4 := Lib.hid he4
                    have HK3 := Lib.hid hk3
                    have hwk3 : IntKind.i64.wrap ((k : Int) + 1) = (k3 : Int) := by rw [IntWalk.i64_in _ (by omega)]; omega
                    obtain ⟨bc, hbc⟩ : ∃ b : Bool, b = !decide (l[k]? = some 62) := ⟨_, rfl⟩
                    have HBC := Lib.hid hbc
                    clear HBA HAT hn32 hbc he4 hk3
                    go_upto_region 22 with fail
                    go_cut [132] (fun t wx => t = .bool bc ∧ wx = wr)
                    case first => as_aux_lemma =>
                      by_cases hlt : k < s.size
                      · by_cases hc : s[k] = 62
                        · have e0 : (((s[k]).toNat : Int) != 62) = false := by rw [hc]; rfl
                          have hbv : bc = false := by rw [HBC.out, at_get HSL.out hlt, hc]; rfl
                          subst hbv
                          clear hc
                          go_wp2_with fail
                          go_meet
                          first | exact ⟨rfl, rfl⟩ | exact ⟨congrArg Value.bool (by first | rfl | (simp; done) | (simp; omega)), rfl⟩
                        · have e0 : (((s[k]).toNat : Int) != 62) = true := bne_iff_ne.2 fun e => hc (Pct.u8_eq (by show (s[k]).toNat = 62; omega))
                          have hbv : bc = true := by rw [HBC.out, at_get HSL.out hlt]; simp [hc]
                          subst hbv
                          clear hc
                          go_wp2_with fail
                          go_meet
                          first | exact ⟨rfl, rfl⟩ | exact ⟨congrArg Value.bool (by first | rfl | (simp; done) | (simp; omega)), rfl⟩
                      · have hbv : bc = true := by rw [HBC.out, at_none HSL.out (by omega)]; rfl
                        subst hbv
                        go_wp2_with fail
                        go_meet
                        first | exact ⟨rfl, rfl⟩ | exact ⟨congrArg Value.bool (by first | rfl | (simp; done) | (simp; omega)), rfl⟩
                    case rest =>
                      obtain ⟨hc1, hc2⟩ := hcut
                      subst hc1
                      replace hc2 := hc2.symm
                      subst hc2
                      cases bc with
                      | true => as_aux_lemma =>
                        have hne : ¬ l[k]? = some 62 := by have := HBC.out; intro h; rw [h] at this; cases this
                        have HTN0 : Hid (T = none) := Lib.hid (HAF.out.trans (Xm.after_bad hne))
                        clear hne
                        have zz0 := hea.b8.c0
                        have zz1 := hea.b8.c1
                        have zz2 := hea.b8.c2
                        have zz3 := hea.b8.c3
                        obtain ⟨cc0, ff0, cc1, ff1, cc2, ff2, cc3, ff3, qq0, qq1, qq2, qq3⟩ := hea.b6.copy (.string (S nm)) (.slice A ps.length cap) (.string ⟨#[]⟩) (.slice none 0 0)
                        have HBB := Lib.hid (below_copy hea.bel hle6 (.string (S nm)) (.slice A ps.length cap) (.string ⟨#[]⟩) (.slice none 0 0))
                        have HTN := Lib.hid HTN0.out
                        go_wp2_with fail
                        refine bodyPost_ret (v := .tuple #[.agg #[.string (S nm), .slice A ps.length cap, .string ⟨#[]⟩, .slice none 0 0], .int .i64 (-1)]) ?_ rfl ⟨_, _, _, _, _, _, _, _, _, rfl, HBB.out, by rw [HTN.out]; exact rfl⟩
                        simp [results, Tryd.results14, go_sem, qq0, qq1, qq2, qq3]
                      | false => as_aux_lemma =>
                        have h62 : l[k]? = some 62 := by have := HBC.out; by_cases h : l[k]? = some 62; exact h; rw [decide_eq_false h] at this; cases this
                        have hlt := at_lt HSL.out h62
                        have HAG := Lib.hid (HAF.out.trans (HAT4.out h62))
                        have hk3s : k3 ≤ s.size := by have := HK3.out; omega
                        have he4s : k3 ≤ e4 ∧ e4 ≤ s.size := by
                          have h1 := Xm.tk_le 60 (l.drop k3)
                          rw [List.length_drop] at h1
                          have := HE4.out
                          have := HZ.out
                          omega
                        clear HBC HAF HAT4 h62
                        go_wp2_with fail
                        refine (HTO.out 60 60 k3 e4 _ rfl hk3s HE4.out).mono ?_
                        rintro _ w' ⟨rfl, rfl⟩
                        have hX := ext_cut HSL.out he4s.1
                        have HAH := HAG.out
                        obtain ⟨x, hx⟩ : ∃ x, x = (l.drop k3).take (e4 - k3) := ⟨_, rfl⟩
                        rw [← hx] at hX HAH
                        have hxl : x.length ≤ 16777216 := by
                          have h1 : x.length ≤ (l.drop k3).length := by rw [hx]; exact List.length_take_le' ..
                          rw [List.length_drop] at h1
                          have := HZ.out
                          omega
                        have a1 : (k3 : Int) ≤ (e4 : Int) := by omega
                        have a2 : (e4 : Int) ≤ (s.size : Int) := by omega
                        have HU := Lib.hid (refUnescape_any x wr hxl)
                        clear hx HAG
                        cases hu : Xm.unescape x with
                        | none => as_aux_lemma =>
                          have HTN0 : Hid (T = none) := Lib.hid (by rw [HAH, hu]; rfl)
                          rw [hu] at HU
                          clear hu HAH
                          unfold toldUn at HU
                          go_wp2_with fail
                          refine HU.out.mono ?_
                          rintro _ w2 ⟨rfl, hb2⟩
                          have hea := hea.next hb2
                          clear hX
                          have zz0 := hea.b8.c0
                          have zz1 := hea.b8.c1
                          have zz2 := hea.b8.c2
                          have zz3 := hea.b8.c3
                          obtain ⟨cc0, ff0, cc1, ff1, cc2, ff2, cc3, ff3, qq0, qq1, qq2, qq3⟩ := hea.b6.copy (.string (S nm)) (.slice A ps.length cap) (.string ⟨#[]⟩) (.slice none 0 0)
                          have HBB := Lib.hid (below_copy hea.bel hle6 (.string (S nm)) (.slice A ps.length cap) (.string ⟨#[]⟩) (.slice none 0 0))
                          have HTN := Lib.hid HTN0.out
                          go_wp2_with fail
                          refine bodyPost_ret (v := .tuple #[.agg #[.string (S nm), .slice A ps.length cap, .string ⟨#[]⟩, .slice none 0 0], .int .i64 (-1)]) ?_ rfl ⟨_, _, _, _, _, _, _, _, _, rfl, HBB.out, by rw [HTN.out]; exact rfl⟩
                          simp [results, Tryd.results14, go_sem, qq0, qq1, qq2, qq3]
                        | some tx => as_aux_lemma =>
                          have HK0 : Hid (Xm.KidsTo T D (nm, ps, tx) l [] e4) := Lib.hid (Xm.KidsTo.start (L := L) (by rw [HAH, hu]; rfl) (by have := HL.out; have := HK3.out; omega))
                          rw [hu] at HU
                          clear hu HAH
                          unfold toldUn at HU
                          go_wp2_with fail
                          refine HU.out.mono ?_
                          rintro _ w2 ⟨rfl, hb2⟩
                          have hea2 := hea.next hb2
                          have B8 := hea2.b8
                          have y2 := B8.c2
                          have yf2 := B8.fr 2
                          have HEK := Lib.hid (hea2.text tx)
                          clear hX hea hea2 B8 hb2
                          go_wp2_with fail
                          clear y2 yf2
                          go_loopw [1] (fun i wr => KRel w g6 g8 T D nm tx ps l A cap i wr) (fun i _ => l.length - (intOf i).toNat)
                          case atStart => exact ⟨e4, [], none, 0, [], [], by have := HZ.out; omega, rfl, Nat.zero_le _, HK0.out, HEK.out⟩
                          case round => as_aux_lemma =>
                            clear HK0 HEK HU a1 a2 he4s hk3s HE4 HK3 hlt hwk3 hek hpk
                            obtain ⟨k, ks, K, ck, vs, G, hk, rfl, hksl, hkt, hek⟩ := hrel
                            have HKT := Lib.hid hkt
                            clear hkt
                            have hkz : k ≤ s.size := by have := HZ.out; omega
                            obtain ⟨k1, hk1⟩ : ∃ k1, k1 = k + 1 := ⟨_, rfl⟩
                            have hwk1 : IntKind.i64.wrap ((k : Int) + 1) = (k1 : Int) := by rw [IntWalk.i64_in _ (by omega)]; omega
                            have HKP := Lib.hid (Xm.kid_pos l k)
                            rw [← hk1] at HKP
                            have HK1 := Lib.hid hk1
                            obtain ⟨bk, hbk⟩ : ∃ b : Bool, b = Xm.kidNext (l.drop k) := ⟨_, rfl⟩
                            have HBK := Lib.hid hbk
                            clear hbk hk1
                            go_upto_region 31 with fail
                            go_cut [170] (fun t wx => t = .bool bk ∧ wx = wr)
                            case first => as_aux_lemma =>
                              have hbv0 := HBK.out.trans HKP.out
                              by_cases h1 : k1 < s.size
                              · have hks : k < s.size := by have := HK1.out; omega
                                rw [decide_eq_true (by have := HZ.out; omega : k1 < l.length), at_get HSL.out hks, at_get HSL.out h1] at hbv0
                                by_cases hc : s[k] = 60
                                · have e0 : (((s[k]).toNat : Int) == 60) = true := by rw [hc]; rfl
                                  by_cases hd : s[k1] = 47
                                  · have e1 : (((s[k1]).toNat : Int) != 47) = false := by rw [hd]; rfl
                                    have hbv : bk = false := by rw [hbv0, hc, hd]; rfl
                                    subst hbv
                                    clear hc hd hbv0
                                    go_wp2_with fail
                                    go_meet
                                    first | exact ⟨rfl, rfl⟩ | exact ⟨congrArg Value.bool (by first | rfl | (simp; done) | (simp; omega)), rfl⟩
                                  · have e1 : (((s[k1]).toNat : Int) != 47) = true := bne_iff_ne.2 fun e => hd (Pct.u8_eq (by show (s[k1]).toNat = 47; omega))
                                    have hbv : bk = true := by rw [hbv0, hc]; simp [hd]
                                    subst hbv
                                    clear hc hd hbv0
                                    go_wp2_with fail
                                    go_meet
                                    first | exact ⟨rfl, rfl⟩ | exact ⟨congrArg Value.bool (by first | rfl | (simp; done) | (simp; omega)), rfl⟩
                                · have e0 : (((s[k]).toNat : Int) == 60) = false := u8_ne (n := 60) 60 rfl hc
                                  have hbv : bk = false := by rw [hbv0]; simp [hc]
                                  subst hbv
                                  clear hc hbv0
                                  go_wp2_with fail
                                  go_meet
                                  first | exact ⟨rfl, rfl⟩ | exact ⟨congrArg Value.bool (by first | rfl | (simp; done) | (simp; omega)), rfl⟩
                              · have hbv : bk = false := by rw [hbv0, decide_eq_false (by have := HZ.out; omega : ¬ k1 < l.length)]; rfl
                                subst hbv
                                clear hbv0
                                go_wp2_with fail
                                go_meet
                                first | exact ⟨rfl, rfl⟩ | exact ⟨congrArg Value.bool (by first | rfl | (simp; done) | (simp; omega)), rfl⟩
                            case rest =>
                              obtain ⟨hc1, hc2⟩ := hcut
                              subst hc1
                              replace hc2 := hc2.symm
                              subst hc2
                              cases bk with
                              | true => as_aux_lemma =>
                                have HBT : Hid (Xm.kidNext (l.drop k) = true) := Lib.hid HBK.out.symm
                                clear HBK HKP
                                go_wp2_with fail
                                refine (HIH.out k _ hkz).mono ?_
                                rintro _ w2 ⟨q0, A2, na2, ca2, q2, K2, nk2, ck2, x, rfl, hb2, hli⟩
                                have hek2 := hek.next hb2
                                have h8l := hek.b8.lt
                                have hKl := hek.ltK
                                have HB2 := Lib.hid hb2.size
                                clear hek hb2
                                cases hr : Xm.elP D (l.drop k) with
                                | none => as_aux_lemma =>
                                  rw [hr] at hli
                                  have hx : x = -1 := hli
                                  subst hx
                                  have HTN0 : Hid (T = none) := Lib.hid (HKT.out.bad HBT.out hr)
                                  clear hli hr
                                  go_upto_region 33 with fail
                                  have hek := hek2.next ((Below.refl w2.heap.size w2).alloc (Nat.le_refl _) (.cells #[.string q0, .slice A2 na2 ca2, .string q2, .slice K2 nk2 ck2] 26))
                                  obtain ⟨w3, hw3⟩ : ∃ w3, w3 = w2.alloc (.cells #[.string q0, .slice A2 na2 ca2, .string q2, .slice K2 nk2 ck2] 26) := ⟨_, rfl⟩
                                  rw [← hw3] at hek ⊢
                                  clear hw3 hek2
                                  have zz0 := hek.b8.c0
                                  have zz1 := hek.b8.c1
                                  have zz2 := hek.b8.c2
                                  have zz3 := hek.b8.c3
                                  obtain ⟨cc0, ff0, cc1, ff1, cc2, ff2, cc3, ff3, qq0, qq1, qq2, qq3⟩ := hek.b6.copy (.string (S nm)) (.slice A ps.length cap) (.string (S tx)) (.slice K ks.length ck)
                                  have HBB := Lib.hid (below_copy hek.bel hle6 (.string (S nm)) (.slice A ps.length cap) (.string (S tx)) (.slice K ks.length ck))
                                  have HTN := Lib.hid HTN0.out
                                  go_wp2_with fail
                                  refine bodyPost_ret (v := .tuple #[.agg #[.string (S nm), .slice A ps.length cap, .string (S tx), .slice K ks.length ck], .int .i64 (-1)]) ?_ rfl ⟨_, _, _, _, _, _, _, _, _, rfl, HBB.out, by rw [HTN.out]; exact rfl⟩
                                  simp [results, Tryd.results14, go_sem, qq0, qq1, qq2, qq3]
                                | some p => as_aux_lemma =>
                                  obtain ⟨n, r⟩ := p
                                  rw [hr] at hli
                                  obtain ⟨hx, F, hft, hlo⟩ := hli
                                  obtain ⟨k5, hk5⟩ : ∃ k5, k5 = l.length - r.length := ⟨_, rfl⟩
                                  obtain ⟨p1, p2, p3⟩ := Xm.el_pos hr
                                  have HG : Hid (Xm.KidsTo T D (nm, ps, tx) l (ks ++ [n]) k5) := Lib.hid (by rw [hk5]; exact HKT.out.good HBT.out hr)
                                  rw [← hk5] at hx p1 p2
                                  subst hx
                                  have hk5l : k5 ≤ l.length := by omega
                                  have HK5 := Lib.hid hk5
                                  have hx0 : ¬ (k5 : Int) < 0 := by omega
                                  clear hr hk5 p1 p3 HKT HBT
                                  go_upto_region 33 with fail
                                  have hba : Below w2.heap.size w2 (w2.alloc (.cells #[.string q0, .slice A2 na2 ca2, .string q2, .slice K2 nk2 ck2] 26)) := (Below.refl w2.heap.size w2).alloc (Nat.le_refl _) _
                                  have hN : BN (w2.alloc (.cells #[.string q0, .slice A2 na2 ca2, .string q2, .slice K2 nk2 ck2] 26)) w2.heap.size (.string q0) (.slice A2 na2 ca2) (.string q2) (.slice K2 nk2 ck2) := heap_alloc_new w2 _
                                  obtain ⟨w3, hw3⟩ : ∃ w3, w3 = w2.alloc (.cells #[.string q0, .slice A2 na2 ca2, .string q2, .slice K2 nk2 ck2] 26) := ⟨_, rfl⟩
                                  obtain ⟨gn, hgn⟩ : ∃ gn, gn = w2.heap.size := ⟨_, rfl⟩
                                  rw [← hw3] at hba hN ⊢
                                  rw [← hgn] at hN ⊢
                                  have hek3 := hek2.next hba
                                  have hft3 := FT.keep _ _ _ hft (Same.below hba (fun b hb => (hlo b hb).2))
                                  have hlo3 : ∀ b ∈ F, g8 < b ∧ b < w3.heap.size := fun b hb => ⟨Nat.lt_of_lt_of_le h8l (hlo b hb).1, Nat.lt_of_lt_of_le (hlo b hb).2 hba.size⟩
                                  have hne3 : ∀ b ∈ F, b ∉ blkOf K := fun b hb hm => by
                                    have h1 := (hKl b hm).2
                                    have h2 := (hlo b hb).1
                                    omega
                                  have n0 := hN.c0
                                  have n1 := hN.c1
                                  have n2 := hN.c2
                                  have n3 := hN.c3
                                  clear hw3 hgn hba hN hek2 hft hlo
                                  have hb4 : Below w3.heap.size w3 (w3.alloc (.cells #[.string q0, .slice A2 na2 ca2, .string q2, .slice K2 nk2 ck2] 26)) := (Below.refl w3.heap.size w3).alloc (Nat.le_refl _) _
                                  have hek4 := hek3.next hb4
                                  have hft4 := FT.keep _ _ _ hft3 (Same.below hb4 (fun b hb => (hlo3 b hb).2))
                                  have HLO4 : Hid (∀ b ∈ F, g8 < b ∧ b < (w3.alloc (.cells #[.string q0, .slice A2 na2 ca2, .string q2, .slice K2 nk2 ck2] 26)).heap.size) := Lib.hid (fun b hb => ⟨(hlo3 b hb).1, Nat.lt_of_lt_of_le (hlo3 b hb).2 hb4.size⟩)
                                  have y3 := hek3.b8.c3
                                  have hrow4 := hek4.kid
                                  have B84 := hek4.b8
                                  have hlt8 := B84.lt
                                  have hrl : ∀ b, (Value.slice K ks.length ck).ownBlock = some b → g8 + 1 ≤ b := fun b hb => (World.ownsRow.lt hrow4 b hb).1
                                  have h63 : ks.length + 1 ≤ maxLen := by unfold maxLen; omega
                                  have h64 : (ks.length + 1) * 80 ≤ 140737488355328 := by omega
                                  have hg83 : g8 + 1 ≤ w3.heap.size := by have := hek3.b8.lt; omega
                                  have HEK4 := Lib.hid hek4
                                  have HFT4 := Lib.hid hft4
                                  have HNE3 := Lib.hid hne3
                                  clear hek4 hft4 hb4 hft3 hlo3 hek3 hne3
                                  go_upto_region 35 with fail
                                  go_wp2_with (at_builtin; refine wpList_append_lies _ rfl (.tmp 183) (.tmp 185) _ rfl (g8 + 1) 26 i1 _ 4 80 Tryd.underlying24 hi1 hy0 hy1 hy2 rfl (by omega) _ ks.length (vs.flatMap cells4) rfl hrow4 ⟨w3.heap.size, 0, none⟩ 1 1 [.string q0, .slice A2 na2 ca2, .string q2, .slice K2 nk2 ck2] rfl rfl (World.news_of_block (cs := #[.string q0, .slice A2 na2 ca2, .string q2, .slice K2 nk2 ck2]) (t := 26) (fr := (0, 0)) (heap_alloc_new w3 _)) (by simp [Value.oneCell']) (by omega) h63 h64 (by simp; omega) (w3.heap.size + 1) (by simp) ?_; intro gg cp w5 hown5 hgrow hat5 hlt5; have B9 := B84.grown hgrow (fun e => by have := hrl g8 e; omega); have e5 := B9.c3; have f5 := B9.fr 3)
                                  have hfin := EK.push HEK4.out HFT4.out HLO4.out HNE3.out (gg := gg) (cap2 := cp) hown5 hgrow (hat5.imp id (fun e => by simpa using e))
                                  have HFIN := Lib.hid hfin
                                  clear hfin hown5 hgrow hat5
                                  go_roundw
                                  case rel => exact ⟨k5, ks ++ [n], some ⟨gg, 0, none⟩, cp, _, _, hk5l, rfl, by simp; omega, HG.out, HFIN.out⟩
                                  case measure => simp [intOf]; omega
                              | false => as_aux_lemma =>
                                have HLA := Lib.hid ((HKT.out.stop HBK.out.symm).trans Xm.last_at)
                                obtain ⟨cl, hcl⟩ : ∃ cl, cl = Xm.closing nm := ⟨_, rfl⟩
                                have hcll : cl.length = nm.length + 3 := by rw [hcl]; simp [Xm.closing]
                                have ad1 : ∀ w', (Op.stringOp .add ⟨#[60, 47]⟩ (S nm)).run Tryd.prog w' = .ok (.string (S (60 :: 47 :: nm))) w' := fun w' => run_add_S w' [60, 47] nm (by simp; omega)
                                have ad2 : ∀ w', (Op.stringOp .add (S (60 :: 47 :: nm)) ⟨#[62]⟩).run Tryd.prog w' = .ok (.string (S cl)) w' := fun w' => by
                                  rw [hcl]
                                  exact run_add_S w' (60 :: 47 :: nm) [62] (by simp; omega)
                                dsimp only at HLA
                                rw [← hcl, ← hcll] at HLA
                                have hclz : cl.length ≤ 1000003 := by omega
                                obtain ⟨e, he⟩ : ∃ e, e = k + cl.length := ⟨_, rfl⟩
                                rw [← he] at HLA
                                have hsz : (S cl).size = cl.length := rfl
                                have hwe : IntKind.i64.wrap ((k : Int) + ((S cl).size : Int)) = (e : Int) := by rw [IntWalk.i64_in _ (by omega)]; omega
                                have hke : k ≤ e := by omega
                                have hX := ext_cut HSL.out hke
                                rw [show e - k = cl.length by omega] at hX
                                obtain ⟨y, hy⟩ : ∃ y, y = (l.drop k).take cl.length := ⟨_, rfl⟩
                                rw [← hy] at hX HLA
                                obtain ⟨bl, hbl⟩ : ∃ b : Bool, b = !decide (e ≤ l.length ∧ y = cl) := ⟨_, rfl⟩
                                have HBL := Lib.hid hbl
                                have y0 := hek.b8.c0
                                have HEN := Lib.hid he
                                clear HKT HBK HKP hcl hcll hsz he hy hbl
                                go_upto_region 38 with fail
                                go_cut [210] (fun t wx => t = .bool bl ∧ wx = wr)
                                case first => as_aux_lemma =>
                                  have a1 : (k : Int) ≤ (e : Int) := by omega
                                  by_cases hf : e ≤ s.size
                                  · have a2 : (e : Int) ≤ (s.size : Int) := by omega
                                    have a3 : ¬ (s.size : Int) < (e : Int) := by omega
                                    by_cases hyc : y = cl
                                    · have hcmp : ((S y).toList == (S cl).toList) = true := by rw [hyc]; simp
                                      have hbv : bl = false := by rw [HBL.out, decide_eq_true (⟨by have := HZ.out; omega, hyc⟩ : e ≤ l.length ∧ y = cl)]; rfl
                                      subst hbv
                                      clear hyc
                                      go_wp2_with fail
                                      go_meet
                                      first | exact ⟨rfl, rfl⟩ | exact ⟨congrArg Value.bool (by first | rfl | (simp; done) | (simp; omega)), rfl⟩
                                    · have hcmp : ((S y).toList == (S cl).toList) = false := by rw [S_list, S_list]; simpa using hyc
                                      have hbv : bl = true := by rw [HBL.out, decide_eq_false (fun h => hyc h.2)]; rfl
                                      subst hbv
                                      clear hyc
                                      go_wp2_with fail
                                      go_meet
                                      first | exact ⟨rfl, rfl⟩ | exact ⟨congrArg Value.bool (by first | rfl | (simp; done) | (simp; omega)), rfl⟩
                                  · have a3 : (s.size : Int) < (e : Int) := by omega
                                    have hbv : bl = true := by rw [HBL.out, decide_eq_false (fun h => by have := h.1; have := HZ.out; omega)]; rfl
                                    subst hbv
                                    go_wp2_with fail
                                    go_meet
                                    first | exact ⟨rfl, rfl⟩ | exact ⟨congrArg Value.bool (by first | rfl | (simp; done) | (simp; omega)), rfl⟩
                                case rest =>
                                  obtain ⟨hc1, hc2⟩ := hcut
                                  subst hc1
                                  replace hc2 := hc2.symm
                                  subst hc2
                                  clear hX ad1 ad2
                                  cases bl with
                                  | true => as_aux_lemma =>
                                    have hne : ¬ (e ≤ l.length ∧ y = cl) := by have := HBL.out; intro h; rw [decide_eq_true h] at this; cases this
                                    have HTN0 : Hid (T = none) := Lib.hid (HLA.out.trans (if_neg hne))
                                    clear hne y0
                                    have zz0 := hek.b8.c0
                                    have zz1 := hek.b8.c1
                                    have zz2 := hek.b8.c2
                                    have zz3 := hek.b8.c3
                                    obtain ⟨cc0, ff0, cc1, ff1, cc2, ff2, cc3, ff3, qq0, qq1, qq2, qq3⟩ := hek.b6.copy (.string (S nm)) (.slice A ps.length cap) (.string (S tx)) (.slice K ks.length ck)
                                    have HBB := Lib.hid (below_copy hek.bel hle6 (.string (S nm)) (.slice A ps.length cap) (.string (S tx)) (.slice K ks.length ck))
                                    have HTN := Lib.hid HTN0.out
                                    go_wp2_with fail
                                    refine bodyPost_ret (v := .tuple #[.agg #[.string (S nm), .slice A ps.length cap, .string (S tx), .slice K ks.length ck], .int .i64 (-1)]) ?_ rfl ⟨_, _, _, _, _, _, _, _, _, rfl, HBB.out, by rw [HTN.out]; exact rfl⟩
                                    simp [results, Tryd.results14, go_sem, qq0, qq1, qq2, qq3]
                                  | false => as_aux_lemma =>
                                    have hyes : e ≤ l.length ∧ y = cl := by have := HBL.out; by_cases h : e ≤ l.length ∧ y = cl; exact h; rw [decide_eq_false h] at this; cases this
                                    have HTS : Hid (T = some (.mk nm ps tx ks, l.drop e)) := Lib.hid (HLA.out.trans (if_pos hyes))
                                    have hw := hek.whole
                                    have hg6 : g6 ∉ blkOf A ++ (blkOf K ++ G) := fun hm => by have := (hw.2 g6 hm).1; omega
                                    have hfc := ft_copy hw.1 hg6 (.string (S nm)) (.slice A ps.length cap) (.string (S tx)) (.slice K ks.length ck)
                                    have HLI := Lib.hid (show ElLies (some (.mk nm ps tx ks, l.drop e)) l.length w.heap.size _ (.agg #[.string (S nm), .slice A ps.length cap, .string (S tx), .slice K ks.length ck]) (e : Int) from ⟨by rw [List.length_drop]; omega, _, hfc, fun b hb => ⟨by have := (hw.2 b hb).1; omega, by rw [size_copy]; exact (hw.2 b hb).2⟩⟩)
                                    clear hyes hw hg6 hfc HBL HLA y0
                                    have zz0 := hek.b8.c0
                                    have zz1 := hek.b8.c1
                                    have zz2 := hek.b8.c2
                                    have zz3 := hek.b8.c3
                                    obtain ⟨cc0, ff0, cc1, ff1, cc2, ff2, cc3, ff3, qq0, qq1, qq2, qq3⟩ := hek.b6.copy (.string (S nm)) (.slice A ps.length cap) (.string (S tx)) (.slice K ks.length ck)
                                    have HBB := Lib.hid (below_copy hek.bel hle6 (.string (S nm)) (.slice A ps.length cap) (.string (S tx)) (.slice K ks.length ck))
                                    go_wp2_with fail
                                    refine bodyPost_ret (v := .tuple #[.agg #[.string (S nm), .slice A ps.length cap, .string (S tx), .slice K ks.length ck], .int .i64 (e : Int)]) ?_ rfl ⟨_, _, _, _, _, _, _, _, _, rfl, HBB.out, by rw [HTS.out]; exact HLI.out⟩
                                    simp [results, Tryd.results14, go_sem, qq0, qq1, qq2, qq3]
end Go.Proofs.YtpleaopefngafaaDoor
