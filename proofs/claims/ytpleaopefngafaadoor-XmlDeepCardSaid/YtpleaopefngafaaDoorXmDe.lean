/- What the statement on how deep, and how many, answers: true. No condition. -/
import Derived.Test.YtpleaopefngafaaDoorXmDp
import Derived.Test.YtpleaopefngafaaDoorXmAk
import Derived.Test.YtpleaopefngafaaDoorXmGu
import Derived.Great.Walk
import Derived.Deep.DeepCutAuto
import Derived.Laws.CopyOwn
namespace Go.Proofs.YtpleaopefngafaaDoor
set_option maxRecDepth 8000
open Go.RowKit

/-- Elements of the call's own that lie in one another: their rows lie behind block g. -/
def Ch (w : World) (g : Nat) : Nat → Option Addr → Nat → Nat → Prop
  | 0, K, nk, ck => K = none ∧ nk = 0 ∧ ck = 0
  | j + 1, K, nk, ck => ∃ b K' nk' ck', K = some ⟨b, 0, none⟩ ∧ nk = 1 ∧ ck = 1 ∧ g < b ∧ w.heap[b]? = some (.cells #[.string ⟨#[97]⟩, .slice none 0 0, .string ⟨#[]⟩, .slice K' nk' ck'] 26 (0, 0)) ∧ Ch w g j K' nk' ck'
theorem Ch.keep {w w' : World} {g : Nat} (hs : ∀ x, g < x → x < w.heap.size → w'.heap[x]? = w.heap[x]?) : ∀ (j : Nat) (K : Option Addr) (nk ck : Nat), Ch w g j K nk ck → Ch w' g j K nk ck
  | 0, _, _, _, h => h
  | j + 1, K, nk, ck, h => by
    obtain ⟨b, K', nk', ck', e1, e2, e3, h1, h2, h3⟩ := h
    exact ⟨b, K', nk', ck', e1, e2, e3, h1, (hs b h1 (Array.getElem?_eq_some_iff.1 h2).1).trans h2, Ch.keep hs j K' nk' ck' h3⟩
theorem Ch.tr {w : World} {g : Nat} : ∀ (j : Nat) (K : Option Addr) (nk ck : Nat), Ch w g j K nk ck → Tr w w.heap.size (Xm.dN j) (.agg #[.string ⟨#[97]⟩, .slice none 0 0, .string ⟨#[]⟩, .slice K nk ck])
  | 0, _, _, _, h => by
    obtain ⟨rfl, rfl, rfl⟩ := h
    unfold Xm.dN Tr
    exact ⟨none, 0, none, 0, rfl, fun h => absurd h (by simp), fun h => absurd h (by simp)⟩
  | j + 1, K, nk, ck, h => by
    obtain ⟨b, K', nk', ck', rfl, rfl, rfl, h1, h2, h3⟩ := h
    have ht := Ch.tr j K' nk' ck' h3
    unfold Xm.dN Tr
    refine ⟨none, 0, some ⟨b, 0, none⟩, 1, rfl, fun h => absurd h (by simp), fun _ => ⟨b, 0, rfl, (Array.getElem?_eq_some_iff.1 h2).1, ?_⟩⟩
    unfold TrL
    refine ⟨⟨_, _, _, _, ?_, ?_, ?_, ?_, ht⟩, by unfold TrL; trivial⟩
    · exact cell_of_row w b 0 _ _ _ h2
    · exact cell_of_row w b 1 _ _ _ h2
    · exact cell_of_row w b 2 _ _ _ h2
    · exact cell_of_row w b 3 _ _ _ h2
theorem sizeNode : (Tryd.prog.info? 26).map (·.size) = some 4 := by kernel_rfl
theorem dN_lim (j : Nat) (hj : j ≤ 300) : All (Lim 1099511627776) (Xm.dN j) := limits (by rw [Xm.dS_wr, Xm.dS_len]; omega)
theorem mN_lim (k : Nat) (hk : k ≤ 300) : All (Lim 1099511627776) (Xm.mN k) := limits (by rw [Xm.tS_wr, List.length_append, Xm.tS_len]; simp; omega)

theorem set4 {w : World} {g : Nat} {c0 c1 c2 c3 v0 v1 v2 v3 : Value} {t : TypeId} (h : w.heap[g]? = some (.cells #[c0, c1, c2, c3] t (0, 0))) : ((((w.setCell ⟨g, 0, none⟩ v0).setCell ⟨g, 1, none⟩ v1).setCell ⟨g, 2, none⟩ v2).setCell ⟨g, 3, none⟩ v3).heap[g]? = some (.cells #[v0, v1, v2, v3] t (0, 0)) := by
  have h0 := heap_setCell_same w g 0 _ t v0 h
  have h1 := heap_setCell_same _ g 1 _ t v1 h0
  have h2 := heap_setCell_same _ g 2 _ t v2 h1
  exact heap_setCell_same _ g 3 _ t v3 h2
theorem set4_other (w : World) (g : Nat) (v0 v1 v2 v3 : Value) (x : Nat) (hx : x ≠ g) : ((((w.setCell ⟨g, 0, none⟩ v0).setCell ⟨g, 1, none⟩ v1).setCell ⟨g, 2, none⟩ v2).setCell ⟨g, 3, none⟩ v3).heap[x]? = w.heap[x]? := by
  rw [Below.heap_setCell _ _ _ x hx, Below.heap_setCell _ _ _ x hx, Below.heap_setCell _ _ _ x hx, Below.heap_setCell _ _ _ x hx]
theorem set4_size (w : World) (g : Nat) (v0 v1 v2 v3 : Value) : ((((w.setCell ⟨g, 0, none⟩ v0).setCell ⟨g, 1, none⟩ v1).setCell ⟨g, 2, none⟩ v2).setCell ⟨g, 3, none⟩ v3).heap.size = w.heap.size := by
  rw [World.size_setCell, World.size_setCell, World.size_setCell, World.size_setCell]
def leafC : List Value := [.string ⟨#[99]⟩, .slice none 0 0, .string ⟨#[]⟩, .slice none 0 0]
def lcs : Nat → List Value
  | 0 => []
  | k + 1 => lcs k ++ leafC
theorem lcs_len : ∀ k, (lcs k).length = k * 4
  | 0 => rfl
  | k + 1 => by unfold lcs; rw [List.length_append, lcs_len k]; show k * 4 + 4 = _; omega
theorem lcs_get : ∀ (k x q : Nat), x < k → q < 4 → (lcs k)[x * 4 + q]? = leafC[q]?
  | 0, x, q, h, _ => by omega
  | k + 1, x, q, h, hq => by
    unfold lcs
    by_cases hx : x < k
    · rw [List.getElem?_append_left (by rw [lcs_len]; omega)]
      exact lcs_get k x q hx hq
    · rw [List.getElem?_append_right (by rw [lcs_len]; omega), lcs_len, show x * 4 + q - k * 4 = q by omega]
theorem leaf_tr (w : World) (bd : Nat) : Tr w bd Xm.leaf (.agg #[.string ⟨#[99]⟩, .slice none 0 0, .string ⟨#[]⟩, .slice none 0 0]) := by
  unfold Xm.leaf Tr
  exact ⟨none, 0, none, 0, rfl, fun h => absurd h (by simp), fun h => absurd h (by simp)⟩
theorem leaves_trL {w : World} {bd b : Nat} : ∀ (k i : Nat), (∀ x q v, x < i + k → leafC[q]? = some v → w.cell? ⟨b, x * 4 + q, none⟩ = some v) → TrL w bd b 0 i (List.replicate k Xm.leaf)
  | 0, i, _ => by rw [List.replicate_zero]; unfold TrL; trivial
  | k + 1, i, h => by
    rw [List.replicate_succ]
    unfold TrL
    refine ⟨⟨_, _, _, _, ?_, ?_, ?_, ?_, leaf_tr w bd⟩, leaves_trL k (i + 1) (fun x q v hx hv => h x q v (by omega) hv)⟩
    · rw [Nat.zero_add]; exact h i 0 _ (by omega) rfl
    · rw [Nat.zero_add]; exact h i 1 _ (by omega) rfl
    · rw [Nat.zero_add]; exact h i 2 _ (by omega) rfl
    · rw [Nat.zero_add]; exact h i 3 _ (by omega) rfl
theorem mN_tr {w : World} {base k cap : Nat} {A : Option Addr} (h : w.ownsRow base 26 4 (.slice A k cap) k (lcs k)) : Tr w w.heap.size (Xm.mN k) (.agg #[.string ⟨#[98]⟩, .slice none 0 0, .string ⟨#[]⟩, .slice A k cap]) := by
  unfold Xm.mN Tr
  refine ⟨none, 0, A, cap, by rw [List.length_replicate]; rfl, fun h => absurd h (by simp), fun hn => ?_⟩
  rw [List.length_replicate] at hn
  have h' := h
  rcases h.2 with ⟨_, h0⟩ | ⟨g, cap', cur, hv, hb, hg, r⟩
  · omega
  · injection hv with hA _ _
    refine ⟨g, 0, hA, (Array.getElem?_eq_some_iff.1 hg).1, leaves_trL k 0 (fun x q v hx hq => ?_)⟩
    have hq4 : q < 4 := (List.getElem?_eq_some_iff.1 hq).1
    have := h'.cells (g := g) (by rw [hA]; rfl) (x * 4 + q) v (by rw [lcs_get k x q (by omega) hq4]; exact hq)
    rw [Addr.add_mid, Nat.zero_add] at this
    exact this
theorem own_block9 {w w' : World} {base : Nat} {e : TypeId} {size n : Nat} {g m c : Nat} {xs : List Value} (h : w.ownsRow base e size (.slice (some ⟨g, 0, none⟩) m c) n xs) (hs : ∀ b, b = g → w'.heap[b]? = w.heap[b]?) : w'.ownsRow base e size (.slice (some ⟨g, 0, none⟩) m c) n xs := by
  refine ⟨h.1, ?_⟩
  rcases h.2 with h1 | ⟨g', cap, cur, hv, hb, hg, r⟩
  · exact .inl h1
  · have e1 : g = g' := by
      injection hv with hA _ _
      injection hA with hA
      injection hA
    exact .inr ⟨g', cap, cur, hv, hb, (hs g' e1.symm).trans hg, r⟩
/-- What is told of an element that is read: the value, and the error. -/
theorem told_read {s : List UInt8} {n : Xm.N} {b : Bool} {e : Ending} {w' : World} (hr : Xm.read s = if b then some n else none) (h : ReadPost (Xm.read s) e w') :
    ∃ q0 A na ca q2 K nk ck x, e = .returned (.tuple #[.agg #[.string q0, .slice A na ca, .string q2, .slice K nk ck], .int .i64 x]) ∧ (x == 0) = b ∧ (b = true → x = 0) ∧ (b = false → x = 10) ∧ (b = true → Tr w' w'.heap.size n (.agg #[.string q0, .slice A na ca, .string q2, .slice K nk ck])) := by
  rw [hr] at h
  cases b with
  | true =>
    obtain ⟨v, rfl, ht⟩ := h
    obtain ⟨A, ca, K, ck, hv, _⟩ := ht.form
    subst hv
    exact ⟨_, _, _, _, _, _, _, _, 0, rfl, rfl, fun _ => rfl, (fun h => by cases h), fun _ => ht⟩
  | false => exact ⟨_, _, _, _, _, _, _, _, 10, h, rfl, (fun h => by cases h), fun _ => rfl, fun h => by cases h⟩

set_option maxHeartbeats 3200000 in
theorem xmlDeep_any (a m : Nat) (ha : a < 256) (hm : m < 256) (w : World) (hE : EnvX w) :
    Calls Tryd.prog 5 #[.int .u8 (a : Int), .int .u8 (m : Int)] w fun e w' => e = .returned (.bool true) ∧ Below w.heap.size w w' := by
  have HAW : Hid (∀ w' : World, EnvX w' → Calls Tryd.prog 6 #[] w' fun e w'' => e = .returned (.bool true) ∧ Below w'.heap.size w' w'') := Lib.hid (fun w' h => awake_any w' h)
  obtain ⟨i0, hi0, hz0, hz1, hz2⟩ := info_parts Tryd.infoNode
  obtain ⟨r, hr⟩ : ∃ r, r = a % 20 := ⟨_, rfl⟩
  have r1 : (a : Int) % 20 = (r : Int) := by omega
  have r2 : (a : Int).tmod 20 = (r : Int) := by rw [Int.tmod_eq_emod_of_nonneg (by omega)]; exact r1
  have r3 : a % 20 = r := hr.symm
  have hr20 : r < 20 := by omega
  obtain ⟨d, hd⟩ : ∃ d, d = r + 1 := ⟨_, rfl⟩
  have d1 : (1 : Int) + (r : Int) = (d : Int) := by omega
  have d2 : IntKind.i64.wrap (d : Int) = (d : Int) := IntWalk.i64_in _ (by omega)
  have hd20 : d ≤ 20 := by omega
  have hd0 : 0 < d := by omega
  clear hr hd
  go_enter Tryd.func5, Tryd.ntmps5
  go_wp2_with fail
  refine (HAW.out _ hE).mono ?_
  rintro e w1 ⟨rfl, hb1⟩
  go_wp2_with fail
  obtain ⟨gN, hgN⟩ : ∃ g, g = w1.heap.size := ⟨_, rfl⟩
  obtain ⟨s1, hs1⟩ : ∃ s, s = w1.heap.size := ⟨_, rfl⟩
  have HGN := Lib.hid hgN
  rw [← hgN]
  have HB1 := Lib.hid hb1
  have HE1 := Lib.hid (hE.next hb1)
  clear hgN hs1 hb1 hE
  go_loopw [7, 9] (fun sv iv wr => ∃ (j i : Nat) (K : Option Addr) (nk ck : Nat), i = j + 1 ∧ i ≤ d ∧ iv = .int .i64 (i : Int) ∧ sv = .string (S (Xm.dS j)) ∧ wr.heap[gN]? = some (.cells #[.string ⟨#[97]⟩, .slice none 0 0, .string ⟨#[]⟩, .slice K nk ck] 26 (0, 0)) ∧ Ch wr gN j K nk ck ∧ Below w1.heap.size w1 wr) (fun _ iv _ => d - (intOf iv).toNat)
  case atStart => exact ⟨0, 1, none, 0, 0, rfl, hd0, rfl, rfl, by rw [HGN.out]; exact heap_alloc_new w1 _, ⟨rfl, rfl, rfl⟩, (Below.refl _ _).alloc (Nat.le_refl _) _⟩
  case round =>
    obtain ⟨j, i, K, nk, ck, hij, hid, rfl, rfl, hn, hch, hbr⟩ := hrel
    have c0 := cell_of_row wr gN 0 _ _ _ hn
    have c1 := cell_of_row wr gN 1 _ _ _ hn
    have c2 := cell_of_row wr gN 2 _ _ _ hn
    have c3 := cell_of_row wr gN 3 _ _ _ hn
    have HN := Lib.hid hn
    have HCH := Lib.hid hch
    have HBR := Lib.hid hbr
    have HIJ := Lib.hid hij
    clear hn hch hbr hij
    by_cases hlt : i < d
    · have hI : (i : Int) < (d : Int) := by omega
      obtain ⟨y, hy⟩ : ∃ y, y = Xm.dS j := ⟨_, rfl⟩
      have hyl : y.length ≤ 200 := by rw [hy, Xm.dS_len]; have := HIJ.out; omega
      have HY := Lib.hid hy
      rw [← hy]
      clear hy
      obtain ⟨y1, hy1⟩ : ∃ y1, y1 = ([60, 97, 62] : List UInt8) ++ y := ⟨_, rfl⟩
      have ad1 : ∀ w' : World, (Op.stringOp .add ⟨#[60, 97, 62]⟩ (S y)).run Tryd.prog w' = .ok (.string (S y1)) w' := fun w' => by
        rw [hy1]; exact run_add_S _ ([60, 97, 62] : List UInt8) y (by simp; omega)
      obtain ⟨y2, hy2⟩ : ∃ y2, y2 = y1 ++ ([60, 47, 97, 62] : List UInt8) := ⟨_, rfl⟩
      have ad2 : ∀ w' : World, (Op.stringOp .add (S y1) ⟨#[60, 47, 97, 62]⟩).run Tryd.prog w' = .ok (.string (S y2)) w' := fun w' => by
        rw [hy2]; exact run_add_S _ y1 ([60, 47, 97, 62] : List UInt8) (by rw [hy1]; simp; omega)
      have HY2 : Hid (y2 = Xm.dS (j + 1)) := Lib.hid (by rw [hy2, hy1, HY.out]; rfl)
      have hgl : gN < wr.heap.size := (Array.getElem?_eq_some_iff.1 HN.out).1
      have HA := Lib.hid ((Below.heap_alloc wr (.cells #[.string ⟨#[97]⟩, .slice none 0 0, .string ⟨#[]⟩, .slice K nk ck] 26) gN hgl).trans HN.out)
      clear hy1 hy2
      have f0 := frozen_of_row wr gN 0 _ _ HN.out
      have f1 := frozen_of_row wr gN 1 _ _ HN.out
      have f2 := frozen_of_row wr gN 2 _ _ HN.out
      have f3 := frozen_of_row wr gN 3 _ _ HN.out
      go_wp2_with fail
      go_roundw
      case rel =>
        refine ⟨j + 1, i + 1, some ⟨wr.heap.size, 0, none⟩, 1, 1, by have := HIJ.out; omega, by omega, by go_num, by rw [HY2.out], ?_, ?_, ?_⟩
        · rw [Below.heap_alloc _ _ gN (by rw [set4_size]; exact hgl)]
          exact set4 HN.out
        · refine ⟨wr.heap.size, K, nk, ck, rfl, rfl, rfl, hgl, ?_, ?_⟩
          · have h1 := heap_alloc_new ((((wr.setCell ⟨gN, 0, none⟩ (.string ⟨#[97]⟩)).setCell ⟨gN, 1, none⟩ (.slice none 0 0)).setCell ⟨gN, 2, none⟩ (.string ⟨#[]⟩)).setCell ⟨gN, 3, none⟩ (.slice (some ⟨wr.heap.size, 0, none⟩) 1 1)) (.cells #[.string ⟨#[97]⟩, .slice none 0 0, .string ⟨#[]⟩, .slice K nk ck] 26)
            rw [set4_size] at h1
            exact h1
          · refine Ch.keep (fun x hx hxl => ?_) j K nk ck HCH.out
            rw [Below.heap_alloc _ _ x (by rw [set4_size]; exact hxl)]
            exact set4_other wr gN _ _ _ _ x (by omega)
        · have hs : w1.heap.size ≤ gN := by rw [HGN.out]; exact Nat.le_refl _
          exact (((((HBR.out.setCell (p := ⟨gN, 0, none⟩) hs _).setCell (p := ⟨gN, 1, none⟩) hs _).setCell (p := ⟨gN, 2, none⟩) hs _).setCell (p := ⟨gN, 3, none⟩) hs _)).alloc (by rw [set4_size]; exact HBR.out.size) _
      case measure => simp [intOf]; omega
    · have hI : ¬ (i : Int) < (d : Int) := by omega
      have hid2 : i = d := by omega
      have HJD : Hid (d = j + 1) := Lib.hid (by have := HIJ.out; omega)
      have hgl : gN < wr.heap.size := (Array.getElem?_eq_some_iff.1 HN.out).1
      have HTR := Lib.hid (Ch.tr j K nk ck HCH.out)
      have HBr := Lib.hid (HB1.out.trans (HBR.out.mono HB1.out.size))
      have HEr := Lib.hid (HE1.out.next HBR.out)
      have HNr : Hid (BN wr gN (.string ⟨#[97]⟩) (.slice none 0 0) (.string ⟨#[]⟩) (.slice K nk ck)) := Lib.hid HN.out
      obtain ⟨y, hy⟩ : ∃ y, y = Xm.dS j := ⟨_, rfl⟩
      have HY := Lib.hid hy
      rw [← hy]
      clear hy HIJ HCH HBR HN hgl hid2 HGN HE1 HB1 c0 c1 c2 c3
      go_wp2_with fail
      obtain ⟨wA, hwA⟩ : ∃ wA, wA = wr := ⟨wr, rfl⟩
      subst hwA
      obtain ⟨gM, hgM⟩ : ∃ g, g = wA.heap.size := ⟨_, rfl⟩
      rw [← hgM]
      have HGM := Lib.hid hgM
      clear hgM
      go_loopw [11, 12] (fun tv iv wr => ∃ (k : Nat) (A : Option Addr) (cap : Nat), k ≤ m ∧ iv = .int .i64 (k : Int) ∧ tv = .string (S (Xm.tS k)) ∧ wr.heap[gM]? = some (.cells #[.string ⟨#[98]⟩, .slice none 0 0, .string ⟨#[]⟩, .slice A k cap] 26 (0, 0)) ∧ wr.ownsRow (gM + 1) 26 4 (.slice A k cap) k (lcs k) ∧ Below wA.heap.size wA wr) (fun _ iv _ => m - (intOf iv).toNat)
      case atStart => exact ⟨0, none, 0, Nat.zero_le _, rfl, rfl, by rw [HGM.out]; exact heap_alloc_new wA _, World.ownsRow_nil _ _ _ _, (Below.refl _ _).alloc (Nat.le_refl _) _⟩
      case round =>
        obtain ⟨k, A, cap, hk, rfl, rfl, hmh, hown, hbx⟩ := hrel
        have c3 := cell_of_row wr gM 3 _ _ _ hmh
        have f3 := frozen_of_row wr gM 3 _ _ hmh
        have hgl : gM < wr.heap.size := (Array.getElem?_eq_some_iff.1 hmh).1
        have HMH := Lib.hid hmh
        have HOWN := Lib.hid hown
        have HBX := Lib.hid hbx
        clear hmh hown hbx
        by_cases hlt : k < m
        · have hkI : (k : Int) < (m : Int) := by omega
          obtain ⟨t, ht⟩ : ∃ t, t = Xm.tS k := ⟨_, rfl⟩
          have htl : t.length ≤ 4000 := by rw [ht, Xm.tS_len]; omega
          have HT := Lib.hid ht
          rw [← ht]
          clear ht
          obtain ⟨t2, ht2⟩ : ∃ t2, t2 = t ++ ([60, 99, 62, 60, 47, 99, 62] : List UInt8) := ⟨_, rfl⟩
          have ad2 : ∀ w' : World, (Op.stringOp .add (S t) ⟨#[60, 99, 62, 60, 47, 99, 62]⟩).run Tryd.prog w' = .ok (.string (S t2)) w' := fun w' => by
            rw [ht2]; exact run_add_S _ t ([60, 99, 62, 60, 47, 99, 62] : List UInt8) (by simp; omega)
          have HT2 : Hid (t2 = Xm.tS (k + 1)) := Lib.hid (by rw [ht2, HT.out]; rfl)
          clear ht2
          have hrow2 := HOWN.out.alloc (.cells #[.string ⟨#[99]⟩, .slice none 0 0, .string ⟨#[]⟩, .slice none 0 0] 26)
          have h63 : k + 1 ≤ maxLen := by unfold maxLen; omega
          go_wp2_with (at_builtin; refine wpList_append_lies _ rfl (.tmp 42) (.tmp 44) _ rfl (gM + 1) 26 i0 _ 4 80 Tryd.underlying24 hi0 hz0 hz1 hz2 rfl (by omega) _ k (lcs k) rfl hrow2 ⟨wr.heap.size, 0, none⟩ 1 1 [.string ⟨#[99]⟩, .slice none 0 0, .string ⟨#[]⟩, .slice none 0 0] rfl rfl (World.news_of_block (cs := #[.string ⟨#[99]⟩, .slice none 0 0, .string ⟨#[]⟩, .slice none 0 0]) (t := 26) (fr := (0, 0)) (heap_alloc_new wr _)) (by simp [Value.oneCell']) (by omega) h63 (by omega) (by simp; omega) (wr.heap.size + 1) (by simp) ?_; intro gg cap2 w9 hown10 hgrow hat hlt10; have hM9 : BN w9 gM (.string ⟨#[98]⟩) (.slice none 0 0) (.string ⟨#[]⟩) (.slice A k cap) := ((show BN wr gM _ _ _ _ from HMH.out).alloc _).grown hgrow (fun e => by have := (World.ownsRow.lt HOWN.out gM e).1; omega); have q9 := hM9.c3; have g9 := hM9.fr 3)
          go_roundw
          case rel =>
            have hsw : wA.heap.size ≤ gM := by rw [HGM.out]; exact Nat.le_refl _
            have hb9 : Below wA.heap.size wA w9 := (HBX.out.alloc HBX.out.size _).grown hgrow (by have := HBX.out.size; simp; omega) (fun q hq => by have := (World.ownsRow.lt HOWN.out q hq).1; omega)
            refine ⟨k + 1, some ⟨gg, 0, none⟩, cap2, by omega, by go_num, by rw [HT2.out], hM9.set3 _, ?_, hb9.setCell (p := ⟨gM, 3, none⟩) hsw _⟩
            have hne : gg ≠ gM := by
              have h1 := (World.ownsRow.lt hown10 gg rfl).1
              omega
            exact own_block9 hown10 (fun b hb => Below.heap_setCell w9 ⟨gM, 3, none⟩ _ b (by rw [hb]; exact hne))
          case measure => simp [intOf]; omega
        · have hkI : ¬ (k : Int) < (m : Int) := by omega
          have hkm : k = m := by omega
          rw [hkm] at HMH HOWN ⊢
          have HTM := Lib.hid (mN_tr HOWN.out)
          have HMB : Hid (BN wr gM (.string ⟨#[98]⟩) (.slice none 0 0) (.string ⟨#[]⟩) (.slice A m cap)) := Lib.hid HMH.out
          have HNB := Lib.hid (HNr.out.next HBX.out)
          have HTN := Lib.hid (HTR.out.next HBX.out)
          have HBZ := Lib.hid (HBr.out.trans (HBX.out.mono HBr.out.size))
          have HEZ := Lib.hid (HEr.out.next HBX.out)
          clear hkm hk hlt HMH HOWN HNr HTR HBr HEr HBX HGM c3 f3 hgl
          obtain ⟨t, ht⟩ : ∃ t, t = Xm.tS m := ⟨_, rfl⟩
          have htl : t.length ≤ 4000 := by rw [ht, Xm.tS_len]; omega
          have HT := Lib.hid ht
          rw [← ht]
          clear ht
          obtain ⟨t2, ht2⟩ : ∃ t2, t2 = t ++ ([60, 47, 98, 62] : List UInt8) := ⟨_, rfl⟩
          have ad3 : ∀ w' : World, (Op.stringOp .add (S t) ⟨#[60, 47, 98, 62]⟩).run Tryd.prog w' = .ok (.string (S t2)) w' := fun w' => by
            rw [ht2]; exact run_add_S _ t ([60, 47, 98, 62] : List UInt8) (by simp; omega)
          have HT2 : Hid (t2 = Xm.wr (Xm.mN m)) := Lib.hid (by rw [ht2, HT.out, Xm.tS_wr])
          have ht2l : t2.length ≤ 4010 := by rw [ht2]; simp; omega
          clear ht2
          obtain ⟨b8, hb8⟩ : ∃ b8, b8 = decide (d ≤ 8) := ⟨_, rfl⟩
          obtain ⟨b2, hb2⟩ : ∃ b2, b2 = decide (m < 200) := ⟨_, rfl⟩
          have HR1 : Hid (Xm.read y = if b8 then some (Xm.dN j) else none) := Lib.hid (by
            rw [HY.out, ← Xm.dS_wr, Xm.read_wr (Xm.dN_own j) (by rw [Xm.dN_size]; have := HJD.out; omega), Xm.dN_right j (by have := HJD.out; omega), hb8]
            have e : decide (j < 8) = decide (d ≤ 8) := by have := HJD.out; apply decide_eq_decide.2; omega
            rw [e])
          have HR2 : Hid (Xm.read t2 = if b2 then some (Xm.mN m) else none) := Lib.hid (by
            rw [HT2.out, Xm.read_wr (Xm.mN_own m) (by rw [Xm.mN_size]; omega), Xm.mN_right, hb2])
          have HG1 : Hid (Xm.right (Xm.dN j) = b8) := Lib.hid (by
            rw [Xm.dN_right j (by have := HJD.out; omega), hb8]
            have := HJD.out; apply decide_eq_decide.2; omega)
          have HG2 : Hid (Xm.right (Xm.mN m) = b2) := Lib.hid (by rw [Xm.mN_right, hb2])
          have HJ : Hid (j ≤ 300) := Lib.hid (by have := HJD.out; omega)
          have hd8 : decide ((d : Int) ≤ 8) = b8 := by rw [hb8]; apply decide_eq_decide.2; omega
          have hm2 : decide ((m : Int) < 200) = b2 := by rw [hb2]; apply decide_eq_decide.2; omega
          have hyl : y.length ≤ 200 := by rw [HY.out, Xm.dS_len]; have := HJD.out; omega
          clear hb8 hb2
          go_wp2_with fail
          refine (read_any y wr HEZ.out (by omega)).mono ?_
          rintro e w5 ⟨hp, hb5⟩
          obtain ⟨u0, uA, una, uca, u2, uK, unk, uck, x1, rfl, hx1, hx1t, hx1f, htr1⟩ := told_read HR1.out hp
          have HX1 := Lib.hid (And.intro hx1t (And.intro hx1f htr1))
          clear hp hx1t hx1f htr1
          obtain ⟨w6, hw6⟩ : ∃ w6, w6 = w5.alloc (.cells #[.string u0, .slice uA una uca, .string u2, .slice uK unk uck] 26) := ⟨_, rfl⟩
          obtain ⟨gX, hgX⟩ : ∃ g, g = w5.heap.size := ⟨_, rfl⟩
          have hb56 : Below w5.heap.size w5 w6 := by rw [hw6]; exact (Below.refl _ _).alloc (Nat.le_refl _) _
          have HX6 : Hid (BN w6 gX (.string u0) (.slice uA una uca) (.string u2) (.slice uK unk uck)) := Lib.hid (by rw [hw6, hgX]; exact heap_alloc_new w5 _)
          have hb6 : Below wr.heap.size wr w6 := hb5.trans (hb56.mono hb5.size)
          have HNB6 := Lib.hid (HNB.out.next hb6)
          have HMB6 := Lib.hid (HMB.out.next hb6)
          have HTN6 := Lib.hid (HTN.out.next hb6)
          have HTM6 := Lib.hid (HTM.out.next hb6)
          have HEZ6 := Lib.hid (HEZ.out.next hb6)
          have HBZ6 := Lib.hid (HBZ.out.trans (hb6.mono HBZ.out.size))
          have HXT6 : Hid ((b8 = true → x1 = 0) ∧ (b8 = false → x1 = 10) ∧ (b8 = true → Tr w6 w6.heap.size (Xm.dN j) (.agg #[.string u0, .slice uA una uca, .string u2, .slice uK unk uck]))) := Lib.hid ⟨HX1.out.1, HX1.out.2.1, fun h => (HX1.out.2.2 h).next hb56⟩
          have HW6 := Lib.hid hw6
          have HGX := Lib.hid hgX
          clear hw6 hgX hb56 hb6 hb5 HNB HMB HTN HTM HEZ HBZ HX1
          go_wp2_with fail
          rw [← HW6.out, ← HGX.out]
          refine (read_any t2 w6 HEZ6.out (by omega)).mono ?_
          rintro e w7 ⟨hp, hb7⟩
          obtain ⟨v0, vA, vna, vca, v2, vK, vnk, vck, x2, rfl, hx2, hx2t, hx2f, htr2⟩ := told_read HR2.out hp
          obtain ⟨w8, hw8⟩ : ∃ w8, w8 = w7.alloc (.cells #[.string v0, .slice vA vna vca, .string v2, .slice vK vnk vck] 26) := ⟨_, rfl⟩
          obtain ⟨gY, hgY⟩ : ∃ g, g = w7.heap.size := ⟨_, rfl⟩
          have hb78 : Below w7.heap.size w7 w8 := by rw [hw8]; exact (Below.refl _ _).alloc (Nat.le_refl _) _
          have HY8 : Hid (BN w8 gY (.string v0) (.slice vA vna vca) (.string v2) (.slice vK vnk vck)) := Lib.hid (by rw [hw8, hgY]; exact heap_alloc_new w7 _)
          have hb8 : Below w6.heap.size w6 w8 := hb7.trans (hb78.mono hb7.size)
          have HNB8 := Lib.hid (HNB6.out.next hb8)
          have HMB8 := Lib.hid (HMB6.out.next hb8)
          have HXB8 := Lib.hid (HX6.out.next hb8)
          have HTN8 := Lib.hid (HTN6.out.next hb8)
          have HTM8 := Lib.hid (HTM6.out.next hb8)
          have HBZ8 := Lib.hid (HBZ6.out.trans (hb8.mono HBZ6.out.size))
          have HXT8 : Hid ((b8 = true → x1 = 0) ∧ (b8 = false → x1 = 10) ∧ (b8 = true → Tr w8 w8.heap.size (Xm.dN j) (.agg #[.string u0, .slice uA una uca, .string u2, .slice uK unk uck]))) := Lib.hid ⟨HXT6.out.1, HXT6.out.2.1, fun h => (HXT6.out.2.2 h).next hb8⟩
          have HYT8 : Hid ((b2 = true → x2 = 0) ∧ (b2 = false → x2 = 10) ∧ (b2 = true → Tr w8 w8.heap.size (Xm.mN m) (.agg #[.string v0, .slice vA vna vca, .string v2, .slice vK vnk vck]))) := Lib.hid ⟨hx2t, hx2f, fun h => (htr2 h).next hb78⟩
          have HW8 := Lib.hid hw8
          have HGY := Lib.hid hgY
          clear hw8 hgY hb78 hb8 hb7 HNB6 HMB6 HTN6 HTM6 HEZ6 HBZ6 HXT6 HX6 hx2t hx2f htr2 hp HW6 HGX
          dsimp only
          go_upto_region 19 with fail
          rw [← HW8.out, ← HGY.out]
          have n0 := HNB8.out.c0
          have n1 := HNB8.out.c1
          have n2 := HNB8.out.c2
          have n3 := HNB8.out.c3
          have k0 := HXB8.out.c0
          have k1 := HXB8.out.c1
          have k2 := HXB8.out.c2
          have k3 := HXB8.out.c3
          go_cut [14, 81] (fun xv t wx => xv = .int .i64 x1 ∧ t = .bool false ∧ Below w8.heap.size w8 wx)
          case first =>
            have hRt := right_any (Xm.dN j) _ w8 HTN8.out (dN_lim j HJ.out)
            rw [HG1.out] at hRt
            cases b8 with
            | true =>
              have hx0 := HXT8.out.1 rfl
              have HX0 := Lib.hid hx0
              go_wp2_with fail
              refine hRt.mono ?_
              rintro e w9 ⟨rfl, hb9⟩
              have p0 := (HNB8.out.next hb9).c0
              have p1 := (HNB8.out.next hb9).c1
              have p2 := (HNB8.out.next hb9).c2
              have p3 := (HNB8.out.next hb9).c3
              have o0 := (HXB8.out.next hb9).c0
              have o1 := (HXB8.out.next hb9).c1
              have o2 := (HXB8.out.next hb9).c2
              have o3 := (HXB8.out.next hb9).c3
              have hSm := refSame_any _ (Xm.dN j) (Nat.le_refl _) _ _ w9 ((HXT8.out.2.2 (by first | rfl | trivial)).next hb9) (HTN8.out.next hb9) (dN_lim j HJ.out)
              have HB9 := Lib.hid hb9
              clear hb9 hRt
              go_wp2_with fail
              refine hSm.mono ?_
              rintro e w10 ⟨rfl, hb10⟩
              go_wp2_with fail
              go_meet
              exact ⟨by rw [HX0.out], rfl, HB9.out.trans (hb10.mono HB9.out.size)⟩
            | false =>
              have hx0 := HXT8.out.2.1 rfl
              have HX0 := Lib.hid hx0
              go_wp2_with fail
              refine hRt.mono ?_
              rintro e w9 ⟨rfl, hb9⟩
              go_wp2_with fail
              go_meet
              exact ⟨by rw [HX0.out], rfl, hb9⟩
          case rest =>
          obtain ⟨hc0, hc1, hbc⟩ := hcut
          subst hc0
          subst hc1
          have z0 := (HMB8.out.next hbc).c0
          have z1 := (HMB8.out.next hbc).c1
          have z2 := (HMB8.out.next hbc).c2
          have z3 := (HMB8.out.next hbc).c3
          have hRt := right_any (Xm.mN m) _ wc (HTM8.out.next hbc) (mN_lim m (by omega))
          rw [HG2.out] at hRt
          have HBC := Lib.hid (HBZ8.out.trans (hbc.mono HBZ8.out.size))
          clear k0 k1 k2 k3 n0 n1 n2 n3
          cases b2 with
          | true =>
            have hx0 := HYT8.out.1 rfl
            go_wp2_with fail
            refine hRt.mono ?_
            rintro e w9 ⟨rfl, hb9⟩
            have hb9c := hbc.trans (hb9.mono hbc.size)
            have p0 := (HMB8.out.next hb9c).c0
            have p1 := (HMB8.out.next hb9c).c1
            have p2 := (HMB8.out.next hb9c).c2
            have p3 := (HMB8.out.next hb9c).c3
            have o0 := (HY8.out.next hb9c).c0
            have o1 := (HY8.out.next hb9c).c1
            have o2 := (HY8.out.next hb9c).c2
            have o3 := (HY8.out.next hb9c).c3
            have hSm := refSame_any _ (Xm.mN m) (Nat.le_refl _) _ _ w9 ((HYT8.out.2.2 (by first | rfl | trivial)).next hb9c) (HTM8.out.next hb9c) (mN_lim m (by omega))
            have HB9 := Lib.hid (HBC.out.trans (hb9.mono HBC.out.size))
            clear hb9 hRt hb9c hbc z0 z1 z2 z3
            go_wp2_with fail
            refine hSm.mono ?_
            rintro e w10 ⟨rfl, hb10⟩
            go_wp2_with fail
            go_ret
            exact ⟨rfl, HB9.out.trans (hb10.mono HB9.out.size)⟩
          | false =>
            have hx0 := HYT8.out.2.1 rfl
            go_wp2_with fail
            refine hRt.mono ?_
            rintro e w9 ⟨rfl, hb9⟩
            go_wp2_with fail
            go_ret
            exact ⟨rfl, HBC.out.trans (hb9.mono HBC.out.size)⟩
/-- The same, its numbers as they come in. -/
theorem xmlDeep_int (x y : Int) (hx : 0 ≤ x ∧ x < 256) (hy : 0 ≤ y ∧ y < 256) (w : World) (hE : EnvX w) :
    Calls Tryd.prog 5 #[.int .u8 x, .int .u8 y] w fun e w' => e = .returned (.bool true) ∧ Below w.heap.size w w' := by
  obtain ⟨a, rfl⟩ := Int.eq_ofNat_of_zero_le hx.1
  obtain ⟨m, rfl⟩ := Int.eq_ofNat_of_zero_le hy.1
  exact xmlDeep_any a m (by omega) (by omega) w hE
end Go.Proofs.YtpleaopefngafaaDoor
