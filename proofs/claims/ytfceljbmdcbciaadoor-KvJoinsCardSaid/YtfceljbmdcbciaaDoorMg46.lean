/- The call KvJoins answers true, for any changes. Condition: the table of sums reads as its text lays it. Lists of bytes that came in: from their readings to their cells. No condition. -/
import Derived.Test.YtfceljbmdcbciaaDoorMg41
import Derived.Test.YtfceljbmdcbciaaDoorMg40
import Derived.Test.YtfceljbmdcbciaaDoorMg44
import Derived.Test.YtfceljbmdcbciaaDoorMg45
import Derived.Test.YtfceljbmdcbciaaDoorMg05
import Derived.Deep.Grids
import Derived.Deep.Slices
namespace Go.Proofs.YtfceljbmdcbciaaDoor
set_option maxRecDepth 8000
open Go.RowKit

/-- append(l, m...), where there may be none. -/
theorem chs_copyN {W : World} {ops : Array Oper} {rest : List Oper} {op : Oper} {a : Act} {Q : Exit → Act → World → Prop} (hw : Region.wanted op (yielded ops a.tmps) = true) (s x : Operand) (base B : Nat) (v : Value) (A : Option Addr) (n c : Nat) (l m : List Kv.C)
    (ho : op.op = .call { callee := .builtin .append, args := #[s, x], argTypes := #[53, 53] }) (hs : a.eval s = v) (hx : a.eval x = .slice A n c) (hm : m.length = n)
    (hown : ChRow base W v l) (hc : ChIn W B A m) (hb : base ≤ W.heap.size) (hl : l.length ≤ 1000) (hn : n ≤ 1000)
    (hK : ∀ v' W', ChRow base W' v' (l ++ m) → Below base W W' → wpList Tryd.prog ops Q rest (a.put op.dst v') W') :
    wpList Tryd.prog ops Q (op :: rest) a W := by
  rcases Nat.eq_zero_or_pos n with h0 | h0
  · subst h0
    have hm0 : m = [] := List.length_eq_zero_iff.1 hm
    subst hm0
    exact chs_copy0 hw s x base v A c l ho hs hx hown (hK v W (by rw [List.append_nil]; exact hown) (Below.refl _ _))
  · exact chs_copy hw s x base B v A n c l m ho hs hx hm h0 hown hc hb hl hn hK
theorem ChRow.form {base : Nat} {w : World} {v : Value} {l : List Kv.C} (h : ChRow base w v l) : ∃ A c, v = .slice A l.length c ∧ ChIn w w.heap.size A l := by
  have h0 := h
  rcases h.2 with ⟨rfl, hn⟩ | ⟨g, cap, cur, rfl, _⟩
  · exact ⟨none, 0, by rw [hn], fun h => absurd h (by omega)⟩
  · exact ⟨_, cap, rfl, ChRow.chin h0⟩
theorem SR.weak {G G' : Nat → Prop} {w : World} {Q n r g r' g' : Nat} {D : DataW Unit} (h : SR G w Q n D r g) (hG : ∀ x, G x → G' x) (hr : r ≤ r') (hg : g ≤ g') : SR G' w Q n D r' g' := by
  obtain ⟨P, L, d, l, h1, h2, h3, h4, h5, h6, h7, h8⟩ := h
  exact ⟨P, L, d, l, h1.mono hG, h2, h3, h4, h5, h6, by omega, by omega⟩
def codeJ (cs : List Kv.C) : Int := if cs.all Kv.right = true then 0 else 1
def tabJ (D : DataW Unit) (cs : List Kv.C) : DataW Unit := if cs.all Kv.right = true then Kv.chs D cs else D
theorem commitJ {G : Nat → Prop} {w : World} {Q n m c r g : Nat} {D : DataW Unit} {A : Option Addr} {cs : List Kv.C} (hH : Hs w) (h : SR G w Q n D r g) (hnG : ¬ G 0) (hm : cs.length = m) (hc : ChIn w w.heap.size A cs) (hm2 : m ≤ 12) (hf : cs.all Kv.fewC = true) (hr : r ≤ 2000) (hg : g ≤ 10) (hn : n ≤ 1000) :
    Calls Tryd.prog 27 #[.pointer (some ⟨Q, 0, none⟩), .slice A m c] w fun e w' => e = .returned (.int .i64 (codeJ cs)) ∧ (∃ n', n' ≤ n + m ∧ SR (Or G w.heap.size w'.heap.size) w' Q n' (tabJ D cs) (r + 1610) (g + 1)) ∧ OutP G w w' := by
  unfold codeJ tabJ
  by_cases hall : cs.all Kv.right = true
  · rw [if_pos hall, if_pos hall]
    have hl := Kv.enc_few cs hall hf
    refine (kvCommit_sr hH h hnG hm hc hm2 hall (by omega) hr hg hn).mono ?_
    rintro e w' ⟨h1, h2, h3⟩
    exact ⟨h1, ⟨n + m, Nat.le_refl _, h2⟩, h3⟩
  · rw [if_neg hall, if_neg hall]
    refine (kvCommit_bad w Q m c 1 A cs hm hc (by omega) (Kv.encode_not (by simpa using hall))).mono ?_
    rintro e w' ⟨h1, h2⟩
    exact ⟨h1, ⟨n, by omega, (h.keep h2).weak (fun x h => .inl h) (by omega) (by omega)⟩, OutP.of h2⟩
theorem allJ {G : Nat → Prop} {w : World} {Q n r g : Nat} {D : DataW Unit} (h : SR G w Q n D r g) (hn : n ≤ 1048576) :
    Calls Tryd.prog 24 #[.pointer (some ⟨Q, 0, none⟩), .string ⟨#[]⟩] w fun e w' => ∃ A c t, e = .returned (.slice A (List.length t) c) ∧ PCells w' w'.heap.size A t ∧ Kv.Told D t ∧ Below w.heap.size w w' ∧ List.length t ≤ n := by
  obtain ⟨P, L, d, l, h1, _⟩ := h
  obtain ⟨F, hk⟩ := h1.sk
  exact kvAll_any sortOk hk hn
/-- A new store on a disk of 400 blocks. -/
theorem openJ {w0 w : World} {P : Nat} (hH : Hs w) (hsd : SD w0.heap.size w P (Dk.new 400)) (hb : Below w0.heap.size w0 w) :
    Calls Tryd.prog 29 #[.pointer (some ⟨P, 0, none⟩)] w fun e w' => ∃ Q, e = .returned (.tuple #[.pointer (some ⟨Q, 0, none⟩), .int .i64 0]) ∧ NewPost w0 P (Dk.new 400) ⟨0, 0, []⟩ Q w' := by
  have hinv : Wl.Inv 0 400 (Dk.new 400).kept ⟨0, 0, []⟩ := Wl.inv_new 0 (by decide) (by decide)
  obtain ⟨dn, hdn⟩ : ∃ dn, dn = Dk.new 400 := ⟨_, rfl⟩
  rw [← hdn] at hsd hinv ⊢
  have hn4 : dn.n = 400 := by rw [hdn]; rfl
  have hst4 : dn.st = [] := by rw [hdn]; rfl
  have hop := walOpen_any w P dn hH (hsd.base (Nat.zero_le _)) hst4
  rw [hn4, hinv.openK] at hop
  exact kvOpen_empty w0 w P dn ⟨0, 0, []⟩ hH hsd hb hop rfl (by decide)
theorem few_partsJ {cs : List Kv.C} (h : Kv.few cs = true) : cs.all Kv.fewC = true := by
  unfold Kv.few at h
  rw [Bool.and_eq_true] at h
  exact h.1
set_option maxHeartbeats 6400000 in
theorem kvJoins_any (A0 A1 : Option Addr) (c0 c1 : Nat) (a b : List Kv.C) (w : World) (hH : Hs w) (hz : 0 < w.heap.size) (h0 : ChIn w w.heap.size A0 a) (h1 : ChIn w w.heap.size A1 b) (m0 : a.length ≤ 9223372036854775807) (m1 : b.length ≤ 9223372036854775807) :
    Calls Tryd.prog 7 #[.slice A0 a.length c0, .slice A1 b.length c1] w fun e w' => e = .returned (.bool true) ∧ Below w.heap.size w w' := by
  have HAW := Lib.hid (awake11_any w hH hz)
  have HC0 := Lib.hid h0
  have HC1 := Lib.hid h1
  have HF0 := Lib.hid (fun (w' : World) (hb : Below w.heap.size w w') => kvFew_any w' A0 a.length c0 a rfl (h0.next hb) m0)
  have HF1 := Lib.hid (fun (w' : World) (hb : Below w.heap.size w w') => kvFew_any w' A1 b.length c1 b rfl (h1.next hb) m1)
  obtain ⟨q0, hq0⟩ : ∃ q, q = Kv.few a := ⟨_, rfl⟩
  obtain ⟨q1, hq1⟩ : ∃ q, q = Kv.few b := ⟨_, rfl⟩
  rw [← hq0] at HF0
  rw [← hq1] at HF1
  have HQ := Lib.hid (And.intro hq0 hq1)
  have HH := Lib.hid hH
  have HZ := Lib.hid hz
  clear h0 h1 hH hz hq0 hq1
  go_enter Tryd.func7, Tryd.ntmps7
  go_wp2_with fail
  refine HAW.out.mono ?_
  rintro e w1 ⟨rfl, hb1⟩
  have HB1 := Lib.hid hb1
  clear hb1 HAW
  go_wp2_with fail
  refine (HF0.out w1 HB1.out).mono ?_
  rintro _ _ ⟨rfl, rfl⟩
  go_wp2_with fail
  refine (HF1.out w1 HB1.out).mono ?_
  rintro _ _ ⟨rfl, rfl⟩
  clear HF0 HF1
  cases q0 with
  | false =>
    go_wp2_with fail
    go_ret
    exact ⟨rfl, HB1.out⟩
  | true =>
  cases q1 with
  | false =>
    go_wp2_with fail
    go_ret
    exact ⟨rfl, HB1.out⟩
  | true =>
  by_cases hl0 : (6 : Int) < (a.length : Int)
  · go_wp2_with fail
    go_ret
    exact ⟨rfl, HB1.out⟩
  by_cases hl1 : (6 : Int) < (b.length : Int)
  · go_wp2_with fail
    go_ret
    exact ⟨rfl, HB1.out⟩
  have HN1 := Lib.hid (new_any w1 400)
  go_wp2_with fail
  refine HN1.out.mono ?_
  intro e w2 hmade
  obtain ⟨P, rfl, hsd, hb2⟩ := hmade.sd
  have HO2 := Lib.hid (openJ ((HH.out.next HB1.out).next hb2) hsd hb2)
  clear hmade hsd hb2 HN1
  go_wp2_with fail
  refine HO2.out.mono ?_
  rintro e w3 ⟨Q1, rfl, hnp⟩
  obtain ⟨hs3, hb3⟩ := hnp.sr
  have HS3 := Lib.hid (And.intro hs3 hb3)
  have HN3 := Lib.hid (new_any w3 400)
  clear hnp hs3 hb3 HO2
  go_wp2_with fail
  refine HN3.out.mono ?_
  intro e w4 hmade
  obtain ⟨P2, rfl, hsd, hb4⟩ := hmade.sd
  have HO4 := Lib.hid (openJ (((HH.out.next HB1.out).next HS3.out.2).next hb4) hsd hb4)
  clear hmade hsd hb4 HN3
  go_wp2_with fail
  refine HO4.out.mono ?_
  rintro e w5 ⟨Q2, rfl, hnp⟩
  obtain ⟨ht5, hb5⟩ := hnp.sr
  have hb35 := hb5
  have hb15 := HB1.out.trans ((HS3.out.2.trans (hb5.mono HS3.out.2.size)).mono HB1.out.size)
  have hs5 := HS3.out.1.keep hb5
  have HX0 := Lib.hid (commitJ (c := c0) (HH.out.next hb15) hs5 (fun h => by have := HZ.out; have := HB1.out.size; omega) rfl (HC0.out.next hb15) (by omega) (few_partsJ HQ.out.1.symm) (by omega) (by omega) (by omega))
  have HT5 := Lib.hid (And.intro ht5 (And.intro hb15 (And.intro HS3.out.2.size hb5.size)))
  clear hnp ht5 hb5 hb35 hb15 hs5 HO4
  go_wp2_with fail
  refine HX0.out.mono ?_
  rintro e w6 ⟨rfl, ⟨n6, hn6, hs6⟩, ho6⟩
  have hb56 : Below w.heap.size w5 w6 := ho6.below (base := w.heap.size) (fun x h => by have := HB1.out.size; omega) HT5.out.2.1.size
  have hb16 := HT5.out.2.1.trans hb56
  have HX1 := Lib.hid (commitJ (c := c1) (HH.out.next hb16) hs6 (fun h => by have := HZ.out; have := HB1.out.size; have := HT5.out.2.1.size; rcases h with h | h <;> omega) rfl (HC1.out.next hb16) (by omega) (few_partsJ HQ.out.2.symm) (by omega) (by omega) (by omega))
  have HT6 := Lib.hid (And.intro (HT5.out.1.out ho6 (fun x h _ h2 => by omega)) (And.intro hb16 ho6.size))
  clear hs6 ho6 hb56 hb16 HX0
  obtain ⟨x, hx⟩ : ∃ x, x = codeJ a := ⟨_, rfl⟩
  rw [← hx]
  have HXA := Lib.hid hx
  clear hx
  go_wp2_with fail
  refine HX1.out.mono ?_
  rintro e w7 ⟨rfl, ⟨n7, hn7, hs7⟩, ho7⟩
  obtain ⟨y, hy⟩ : ∃ y, y = codeJ b := ⟨_, rfl⟩
  rw [← hy]
  have HYB := Lib.hid hy
  clear hy
  have hb17 : Below w.heap.size w w7 := HT6.out.2.1.trans (ho7.below (base := w.heap.size) (fun x h => by have := HB1.out.size; have := HT5.out.2.1.size; rcases h with h | h <;> omega) HT6.out.2.1.size)
  have ht7 := HT6.out.1.out ho7 (fun x h _ h2 => by have := HT5.out.2.2; rcases h2 with h2 | h2 <;> omega)
  have HS7 := Lib.hid (And.intro hs7 (And.intro ht7 hb17))
  have hn7' : n7 ≤ 24 := by omega
  clear hs7 ht7 hb17 ho7 HX1
  have hal : Below w7.heap.size w7 (w7.alloc (.cells #[] 105)) := (Below.refl _ _).alloc (Nat.le_refl _) _
  have hrow0 : ChRow w7.heap.size (w7.alloc (.cells #[] 105)) (.slice (some ⟨w7.heap.size, 0, none⟩) 0 0) [] := World.ownsRow_made w7 #[] 0 (Nat.le_refl _) (Nat.zero_le _) (by simp)
  have hin0 := HC0.out.next (HS7.out.2.2.trans (hal.mono HS7.out.2.2.size))
  have hsz0 : w7.heap.size ≤ (w7.alloc (.cells #[] 105)).heap.size := hal.size
  obtain ⟨ab, hab⟩ : ∃ ab, ab = a ++ b := ⟨_, rfl⟩
  have HAB := Lib.hid hab
  have hq0 := few_partsJ HQ.out.1.symm
  have hq1 := few_partsJ HQ.out.2.symm
  have habl : ab.length ≤ 12 := by rw [hab, List.length_append]; omega
  have HABF := Lib.hid (show ab.all Kv.fewC = true by rw [hab, List.all_append, hq0, hq1]; rfl)
  clear hab hq0 hq1
  go_wp2_with (first
    | (at_builtin; refine chs_copyN (by rfl) (.tmp 68) (.tmp 69) w7.heap.size _ _ A0 a.length c0 [] a rfl rfl rfl rfl hrow0 hin0 hsz0 (by simp) (by omega) ?_; intro va wa hra hba)
    | (at_builtin; refine chs_copyN (by rfl) (.tmp 70) (.tmp 71) w7.heap.size _ _ A1 b.length c1 a b rfl rfl rfl rfl hra (HC1.out.next (HS7.out.2.2.trans ((hal.trans hba).mono HS7.out.2.2.size))) (hal.trans hba).size (by omega) (by omega) ?_; intro vb wb hrb hbb; rw [← HAB.out] at hrb; obtain ⟨AB, cb, rfl, hinb⟩ := hrb.form))
  have hb7 : Below w7.heap.size w7 wb := (hal.trans hba).trans hbb
  have hb1b := HS7.out.2.2.trans (hb7.mono HS7.out.2.2.size)
  have HXT := Lib.hid (commitJ (c := cb) (HH.out.next hb1b) (HS7.out.2.1.keep hb7) (fun h => by have := HZ.out; have := HB1.out.size; have := HT5.out.2.2; omega) rfl hinb habl HABF.out (by omega) (by omega) (by omega))
  have HS8 := Lib.hid (And.intro (HS7.out.1.keep hb7) (And.intro hb1b hb7.size))
  clear hal hrow0 hin0 hsz0 hra hba hrb hbb hinb hb7 hb1b
  refine HXT.out.mono ?_
  rintro e w8 ⟨rfl, ⟨n8, hn8, ht8⟩, ho8⟩
  have hs8 := HS8.out.1.out ho8 (fun x h _ h2 => by
    have := HT5.out.2.2
    have := HT6.out.2.2
    rcases h with (h | h) | h <;> omega)
  have hb18 : Below w.heap.size w w8 := HS8.out.2.1.trans (ho8.below (base := w.heap.size) (fun x h => by have := HB1.out.size; have := HT5.out.2.2; omega) HS8.out.2.1.size)
  have hn8' : n8 ≤ 12 := by omega
  have HE8 := Lib.hid (And.intro hs8 (And.intro ht8 hb18))
  clear hs8 ht8 ho8 hb18 HXT hn8
  by_cases hab : (a.all Kv.right = true ∧ b.all Kv.right = true)
  · have e1 : ab.all Kv.right = true := by rw [HAB.out, List.all_append, hab.1, hab.2]; rfl
    have ex : x = 0 := by rw [HXA.out]; unfold codeJ; rw [if_pos hab.1]
    have ey : y = 0 := by rw [HYB.out]; unfold codeJ; rw [if_pos hab.2]
    have ez : codeJ ab = 0 := by unfold codeJ; rw [if_pos e1]
    have HD := Lib.hid (show tabJ (tabJ (.map []) a) b = tabJ (.map []) ab by
      unfold tabJ
      rw [if_pos hab.1, if_pos hab.2, if_pos e1, HAB.out, Kv.chs_append])
    have HAS := Lib.hid (allJ HE8.out.1 (by omega))
    rw [HD.out] at HAS
    rw [ez]
    subst ex ey
    clear hab e1 ez
    go_wp2_with fail
    refine HAS.out.mono ?_
    rintro e w9 ⟨A9, c9, t9, rfl, hp9, htd9, hb9, hln9⟩
    have HAT := Lib.hid (allJ (HE8.out.2.1.keep hb9) (by omega))
    have HP9 := Lib.hid (And.intro hp9 (And.intro htd9 hb9))
    clear hp9 htd9 hb9 HAS
    go_wp2_with fail
    refine HAT.out.mono ?_
    rintro e w10 ⟨A10, c10, t10, rfl, hp10, htd10, hb10, -⟩
    have htt : t9 = t10 := Kv.told_one HP9.out.2.1 htd10
    subst htt
    have HB10 := Lib.hid (HP9.out.2.2.trans (hb10.mono HP9.out.2.2.size))
    have hlen : t9.length ≤ 1099511627776 := by omega
    have HPP := Lib.hid ((kvPairs_any w10 A9 A10 c9 c10 t9 t9 (HP9.out.1.next hb10) hp10 hlen).mono fun e w' h => (⟨by rw [h.1, decide_eq_true rfl], h.2⟩ : e = .returned (.bool true) ∧ Below w10.heap.size w10 w'))
    clear hp10 htd10 hb10 HAT hlen
    go_wp2_with fail
    refine HPP.out.mono ?_
    rintro e w11 ⟨rfl, hb11⟩
    have HFIN := Lib.hid (HE8.out.2.2.trans ((HB10.out.trans (hb11.mono HB10.out.size)).mono HE8.out.2.2.size))
    clear hb11 HPP
    go_wp2_with fail
    go_ret
    exact ⟨rfl, HFIN.out⟩
  · have e1 : ¬ ab.all Kv.right = true := by
      rw [HAB.out, List.all_append]
      intro h
      rw [Bool.and_eq_true] at h
      exact hab h
    have ez : codeJ ab = 1 := by unfold codeJ; rw [if_neg e1]
    have hxy : (x = 0 ∧ y = 1) ∨ (x = 1 ∧ y = 0) ∨ (x = 1 ∧ y = 1) := by
      rw [HXA.out, HYB.out]
      unfold codeJ
      by_cases h1 : a.all Kv.right = true
      · by_cases h2 : b.all Kv.right = true
        · exact absurd ⟨h1, h2⟩ hab
        · rw [if_pos h1, if_neg h2]
          exact .inl ⟨rfl, rfl⟩
      · by_cases h2 : b.all Kv.right = true
        · rw [if_neg h1, if_pos h2]
          exact .inr (.inl ⟨rfl, rfl⟩)
        · rw [if_neg h1, if_neg h2]
          exact .inr (.inr ⟨rfl, rfl⟩)
    have hat := allJ HE8.out.2.1 (by omega : n8 ≤ 1048576)
    have hD : tabJ (.map []) ab = .map [] := by unfold tabJ; rw [if_neg e1]
    rw [hD] at hat
    have HAT := Lib.hid hat
    rw [ez]
    clear hab e1 ez hat hD
    rcases hxy with ⟨rfl, rfl⟩ | ⟨rfl, rfl⟩ | ⟨rfl, rfl⟩
    all_goals
      go_wp2_with fail
      refine HAT.out.mono ?_
      rintro e w9 ⟨A9, c9, t9, rfl, hp9, htd9, hb9, hln9⟩
      have ht0 : t9 = [] := Kv.told_one htd9 Kv.told_nil
      subst ht0
      have HFIN := Lib.hid (HE8.out.2.2.trans (hb9.mono HE8.out.2.2.size))
      clear hp9 htd9 hb9
      go_wp2_with fail
      go_ret
      exact ⟨rfl, HFIN.out⟩
theorem kvJoins_at (A0 A1 : Option Addr) (c0 c1 : Nat) (a b : List Kv.C) (w : World) (hH : Hs w) (h0 : ChIn w w.heap.size A0 a) (h1 : ChIn w w.heap.size A1 b) (l0 : a.length ≤ c0) (m0 : c0 ≤ 9223372036854775807) (l1 : b.length ≤ c1) (m1 : c1 ≤ 9223372036854775807) :
    Calls Tryd.prog 7 #[.slice A0 a.length c0, .slice A1 b.length c1] w fun e w' => e = .returned (.bool true) ∧ Below w.heap.size w w' := by
  have hz : 0 < w.heap.size := World.block_lt_of_cell? w _ (hH.cell (k := 0) (by omega))
  exact kvJoins_any A0 A1 c0 c1 a b w hH hz h0 h1 (Nat.le_trans l0 m0) (Nat.le_trans l1 m1)
end Go.Proofs.YtfceljbmdcbciaaDoor
namespace Go.Proofs.YtfceljbmdcbciaaDoor
set_option maxRecDepth 8000
open Go.ChangeShapes Go.WideShapes Go.ChangeAt Go.WideMaps Go.WideElems Go.RowKit

theorem Tryd.cellsBytes : Tryd.prog.cellsOf 36 = 1 := by kernel_rfl
theorem open_bytesV {H : Type} {enc : TypeId × Value → H} {W : World} {base0 : Nat} {sp : Nat → Bool} {held : Bool} {fuel : Nat} {v : Value} {x : DataW H × List MemPlace}
    (hf : DataW.trod enc Tryd.prog W base0 sp held fuel 36 [v] = some x) :
    ∃ (A : Option Addr) (c : Nat) (l : List UInt8), v = .slice A l.length c ∧ BCells W W.heap.size A l ∧ l.length ≤ c ∧ c ≤ 9223372036854775807 := by
  rcases open_ints Tryd.underlying36 Tryd.underlying5 Tryd.cellsByte hf with ⟨hcs, _⟩ | ⟨a, len', cap', zs, hcs, _⟩
  · simp only [List.cons.injEq, and_true] at hcs
    exact ⟨none, 0, [], hcs, fun h => absurd h (by simp), Nat.le_refl _, by omega⟩
  · simp only [List.cons.injEq, and_true] at hcs
    subst hcs
    obtain ⟨l, h1, h2, h3, h4⟩ := open_bytes hf
    exact ⟨some a, cap', l, by rw [h1], h2, by omega, h4⟩
theorem open_lists {H : Type} {enc : TypeId × Value → H} {W : World} {base0 : Nat} {held : Bool} {fuel : Nat} {a0 : Option Addr} {len cap : Nat} {x : DataW H × List MemPlace}
    (hf : DataW.trod enc Tryd.prog W base0 (fun _ => true) held fuel 37 [.slice a0 len cap] = some x) :
    ∃ l : List (List UInt8), l.length = len ∧ LC W W.heap.size a0 l ∧ len ≤ cap ∧ cap ≤ 9223372036854775807 ∧ ∀ b ∈ l, b.length ≤ 9223372036854775807 := by
  rcases Deep.open_slice1 Tryd.underlying37 Tryd.cellsBytes hf with ⟨hcs, _⟩ | ⟨a, len', cap', m, n, V, D, Pl, hcs, _, hlc, hcm, hmm, _, hx⟩
  · simp only [List.cons.injEq, Value.slice.injEq, and_true] at hcs
    obtain ⟨rfl, rfl, rfl⟩ := hcs
    exact ⟨[], rfl, fun h => absurd h (by simp), by omega, by omega, fun b hb => absurd hb (by simp)⟩
  · simp only [List.cons.injEq, Value.slice.injEq, and_true] at hcs
    obtain ⟨rfl, rfl, rfl⟩ := hcs
    have hle : len ≤ m := by rw [hmm]; split <;> omega
    have hs : ∀ i, i < len → ∃ q : Option Addr × Nat × List UInt8, W.cell? (a.add i) = some (.slice q.1 q.2.2.length q.2.1) ∧ BCells W W.heap.size q.1 q.2.2 ∧ q.2.2.length ≤ 9223372036854775807 := by
      intro i hi
      obtain ⟨h1, h2⟩ := hx i (by omega)
      obtain ⟨A, c, l, e, hb, hlc', hcm'⟩ := open_bytesV h2
      exact ⟨(A, c, l), by rw [h1, e], hb, by show l.length ≤ _; omega⟩
    obtain ⟨q, hq⟩ := Deep.choose_lt (α := Option Addr × Nat × List UInt8) hs
    refine ⟨(List.range len).map fun i => (q i).2.2, by simp, fun hn => ?_, hlc, by unfold maxLen at hcm; omega, fun b hb => ?_⟩
    · have hn' : 0 < len := by simpa using hn
      obtain ⟨b, off, spot⟩ := a
      have h00 := (hq 0 hn').1
      have hspot : spot = none := by simpa [Addr.add] using World.cell?_spot h00
      subst hspot
      have hadd : ∀ j, (⟨b, off, none⟩ : Addr).add j = ⟨b, off + j, none⟩ := fun j => Addr.add_mid b off j
      refine ⟨b, off, rfl, ?_, fun k hk => ?_⟩
      · have := World.block_lt_of_cell? W _ h00
        rw [hadd] at this
        exact this
      · have hk' : k < len := by simpa using hk
        have e : ((List.range len).map fun i => (q i).2.2)[k] = (q k).2.2 := by simp
        rw [e]
        have h1 := (hq k hk').1
        rw [hadd] at h1
        exact ⟨(q k).1, (q k).2.1, h1, (hq k hk').2.1⟩
    · obtain ⟨i, hi, rfl⟩ := List.mem_map.1 hb
      exact (hq i (List.mem_range.1 hi)).2.2
end Go.Proofs.YtfceljbmdcbciaaDoor
