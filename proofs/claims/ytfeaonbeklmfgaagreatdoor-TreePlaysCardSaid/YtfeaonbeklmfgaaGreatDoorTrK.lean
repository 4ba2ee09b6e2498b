/- The chapter's example of trees comes out; records held against each other; is a text in a list. No condition but their number. -/
import Derived.Test.YtfeaonbeklmfgaaGreatDoorTrJ
import Derived.Test.YtfeaonbeklmfgaaGreatDoorTkH
namespace Go.Proofs.YtfeaonbeklmfgaaGreatDoor
set_option maxRecDepth 8000
open Go.RowKit

/-- A name. -/
def nmT (kind n : Nat) : List UInt8 := Tk.pre kind ++ 45 :: Tk.num n
theorem nameT_any (kind n : Nat) (h : nameV (kind : Int) n = .tuple #[.string (S (nmT kind n)), .int .i64 0]) (hn : n < 18446744073709551616) (w : World) :
    Calls Tryz.prog 35 #[.int .i64 (kind : Int), .int .u64 (n : Int)] w fun e w' => e = .returned (.string (S (nmT kind n))) ∧ w' = w := by
  have HN := Lib.hid (refName_any (kind : Int) n hn w)
  rw [h] at HN
  clear h
  go_enter Tryz.func35, Tryz.ntmps35
  go_wp2_with fail
  refine HN.out.mono ?_
  rintro e w1 ⟨rfl, rfl⟩
  go_wp2_with fail
  go_ret
  exact ⟨rfl, rfl⟩
theorem ex_n11 : nameV ((1 : Nat) : Int) 1 = .tuple #[.string (S (nmT 1 1)), .int .i64 0] := by rfl
theorem ex_n22 : nameV ((2 : Nat) : Int) 2 = .tuple #[.string (S (nmT 2 2)), .int .i64 0] := by rfl
theorem ex_n23 : nameV ((2 : Nat) : Int) 3 = .tuple #[.string (S (nmT 2 3)), .int .i64 0] := by rfl
theorem ex_n44 : nameV ((4 : Nat) : Int) 4 = .tuple #[.string (S (nmT 4 4)), .int .i64 0] := by rfl
def exR1 : Rk.R := ⟨1, nmT 1 1, [], [], [], [], 0, 0, 0, false⟩
def exR2 : Rk.R := ⟨2, nmT 2 2, nmT 1 1, [], [], [], 0, 0, 0, false⟩
def exR3 : Rk.R := ⟨2, nmT 2 3, nmT 1 1, [], [], [], 0, 0, 0, false⟩
def exR4 : Rk.R := ⟨4, nmT 4 4, nmT 2 2, [], [], [], 0, 0, 0, false⟩
theorem ex_add : Tr.addE 9 [] exR1 = 0 ∧ Tr.addE 9 [exR1] exR2 = 0 ∧ Tr.addE 9 [exR1, exR2] exR3 = 0 ∧ Tr.addE 9 [exR1, exR2, exR3] exR4 = 0 := by decide +kernel
theorem ex_drop : Tr.below [exR1, exR2, exR3, exR4] (nmT 2 2) = [nmT 2 2, nmT 4 4] ∧ (Tr.drop [exR1, exR2, exR3, exR4] (nmT 2 2)).length = 2 ∧ (Tr.below [exR1, exR2, exR3, exR4] (nmT 1 1)).length = 4 := by decide +kernel
theorem ex_snoc {l : List Rk.R} {r : Rk.R} (h : Tr.addE 9 l r = 0) : Tr.add 9 l r = l ++ [r] := by unfold Tr.add; rw [if_pos h]
theorem TreeAt.bound {G : Nat → Prop} {w : World} {T room : Nat} {l : List Rk.R} (h : TreeAt G w T room l) : TreeAt (fun x => G x ∧ x < w.heap.size) w T room l := by
  have hlt := h.lt
  obtain ⟨v, h1, h2, h3, h4⟩ := h
  exact ⟨v, h1, h2, ⟨h3, hlt⟩, fun k hk => ⟨h4 k hk, (World.ownsRow.lt h2 k hk).2⟩⟩
theorem ex_step {w0 w : World} {T : Nat} {l : List Rk.R} (r : Rk.R) (hE : EnvT w0) (hb : Below w0.heap.size w0 w) (h : TreeAt (fun x => w0.heap.size ≤ x) w T 9 l) (ha : Tr.addE 9 l r = 0) (hl : l.length ≤ 9) (hn : r.name.length ≤ 100) (hp : r.parent.length ≤ 100) :
    Calls Tryz.prog 34 #[.pointer (some ⟨T, 0, none⟩), recV r] w fun e w' => e = .returned (.int .i64 0) ∧ TreeAt (fun x => w0.heap.size ≤ x) w' T 9 (l ++ [r]) ∧ Below w0.heap.size w0 w' := by
  refine (add_any r h (by omega) (by omega) (by omega) (hE.next hb)).mono ?_
  rintro e w' ⟨he, h1, h2⟩
  rw [ex_snoc ha] at h1
  have hz := hb.size
  refine ⟨by rw [he, ha]; rfl, h1.mono (fun x hx => ?_), hb.trans (h2.below (base := w0.heap.size) (fun x _ h => h) hz)⟩
  rcases hx with hx | hx
  · exact hx
  · omega
def ex4 : List Rk.R := [exR1, exR2, exR3, exR4]
theorem ex_good : Tr.Good 9 ex4 := by
  have g := (((Tr.Good.nil 9).add exR1).add exR2).add exR3 |>.add exR4
  rw [ex_snoc ex_add.1] at g
  rw [ex_snoc (l := [] ++ [exR1]) ex_add.2.1] at g
  rw [ex_snoc (l := [] ++ [exR1] ++ [exR2]) ex_add.2.2.1] at g
  rw [ex_snoc (l := [] ++ [exR1] ++ [exR2] ++ [exR3]) ex_add.2.2.2] at g
  exact g
set_option maxHeartbeats 6400000 in
theorem awake14_any (w : World) (hE : EnvT w) :
    Calls Tryz.prog 6 #[] w fun e w' => e = .returned (.bool true) ∧ Below w.heap.size w w' := by
  have hn11 : ∀ w, Calls Tryz.prog 35 #[.int .i64 1, .int .u64 1] w fun e w' => e = .returned (.string (S (nmT 1 1))) ∧ w = w' := fun w => (nameT_any 1 1 ex_n11 (by decide) w).mono fun e w' h => ⟨h.1, h.2.symm⟩
  have hn22 : ∀ w, Calls Tryz.prog 35 #[.int .i64 2, .int .u64 2] w fun e w' => e = .returned (.string (S (nmT 2 2))) ∧ w = w' := fun w => (nameT_any 2 2 ex_n22 (by decide) w).mono fun e w' h => ⟨h.1, h.2.symm⟩
  have hn23 : ∀ w, Calls Tryz.prog 35 #[.int .i64 2, .int .u64 3] w fun e w' => e = .returned (.string (S (nmT 2 3))) ∧ w = w' := fun w => (nameT_any 2 3 ex_n23 (by decide) w).mono fun e w' h => ⟨h.1, h.2.symm⟩
  have hn44 : ∀ w, Calls Tryz.prog 35 #[.int .i64 4, .int .u64 4] w fun e w' => e = .returned (.string (S (nmT 4 4))) ∧ w = w' := fun w => (nameT_any 4 4 ex_n44 (by decide) w).mono fun e w' h => ⟨h.1, h.2.symm⟩
  have HE := Lib.hid hE
  have HN := Lib.hid (new_anyT 9 w)
  obtain ⟨a1, ha1⟩ : ∃ a, a = nmT 1 1 := ⟨_, rfl⟩
  obtain ⟨a2, ha2⟩ : ∃ a, a = nmT 2 2 := ⟨_, rfl⟩
  obtain ⟨a3, ha3⟩ : ∃ a, a = nmT 2 3 := ⟨_, rfl⟩
  obtain ⟨a4, ha4⟩ : ∃ a, a = nmT 4 4 := ⟨_, rfl⟩
  rw [← ha1] at hn11
  rw [← ha2] at hn22
  rw [← ha3] at hn23
  rw [← ha4] at hn44
  have HR1 : Hid (recV exR1 = .agg #[.int .i64 1, .string (S a1), .string ⟨#[]⟩, .string ⟨#[]⟩, .string ⟨#[]⟩, .string ⟨#[]⟩, .int .i64 0, .int .i64 0, .int .i64 0, .bool false]) := Lib.hid (by rw [ha1]; rfl)
  have HR2 : Hid (recV exR2 = .agg #[.int .i64 2, .string (S a2), .string (S a1), .string ⟨#[]⟩, .string ⟨#[]⟩, .string ⟨#[]⟩, .int .i64 0, .int .i64 0, .int .i64 0, .bool false]) := Lib.hid (by rw [ha1, ha2]; rfl)
  have HR3 : Hid (recV exR3 = .agg #[.int .i64 2, .string (S a3), .string (S a1), .string ⟨#[]⟩, .string ⟨#[]⟩, .string ⟨#[]⟩, .int .i64 0, .int .i64 0, .int .i64 0, .bool false]) := Lib.hid (by rw [ha1, ha3]; rfl)
  have HR4 : Hid (recV exR4 = .agg #[.int .i64 4, .string (S a4), .string (S a2), .string ⟨#[]⟩, .string ⟨#[]⟩, .string ⟨#[]⟩, .int .i64 0, .int .i64 0, .int .i64 0, .bool false]) := Lib.hid (by rw [ha2, ha4]; rfl)
  have HX : Hid (Tr.below ex4 a2 = [a2, a4] ∧ (Tr.drop ex4 a2).length = 2 ∧ (Tr.below ex4 a1).length = 4) := Lib.hid (by rw [ha1, ha2, ha4]; exact ex_drop)
  clear ha1 ha2 ha3 ha4 hE
  go_enter Tryz.func6, Tryz.ntmps6
  go_wp2_with fail
  refine HN.out.mono ?_
  rintro e w1 ⟨T, rfl, hT, hb1⟩
  have hT : TreeAt (fun x => w.heap.size ≤ x) w1 T 9 [] := hT.mono (fun x hx => hx.1)
  have HC1 := ex_step exR1 HE.out hb1 hT ex_add.1 (by decide) (by decide) (by decide)
  rw [HR1.out] at HC1
  have HC1 := Lib.hid HC1
  clear hT hb1 HN
  go_wp2_with (go_at_call 35; (with_reducible refine (hn11 _).mono ?_); rintro _ _ ⟨rfl, rfl⟩)
  refine HC1.out.mono ?_
  rintro e w2 ⟨rfl, hT, hb2⟩
  have HC2 := ex_step exR2 HE.out hb2 hT ex_add.2.1 (by decide) (by decide) (by decide)
  rw [HR2.out] at HC2
  have HC2 := Lib.hid HC2
  clear hT hb2 HC1
  go_wp2_with (go_at_call 35; (first | (with_reducible refine (hn11 _).mono ?_) | (with_reducible refine (hn22 _).mono ?_)); rintro _ _ ⟨rfl, rfl⟩)
  refine HC2.out.mono ?_
  rintro e w3 ⟨rfl, hT, hb3⟩
  have HC3 := ex_step exR3 HE.out hb3 hT ex_add.2.2.1 (by decide) (by decide) (by decide)
  rw [HR3.out] at HC3
  have HC3 := Lib.hid HC3
  clear hT hb3 HC2
  go_wp2_with (go_at_call 35; (first | (with_reducible refine (hn11 _).mono ?_) | (with_reducible refine (hn23 _).mono ?_)); rintro _ _ ⟨rfl, rfl⟩)
  refine HC3.out.mono ?_
  rintro e w4 ⟨rfl, hT, hb4⟩
  have HC4 := ex_step exR4 HE.out hb4 hT ex_add.2.2.2 (by decide) (by decide) (by decide)
  rw [HR4.out] at HC4
  have HC4 := Lib.hid HC4
  clear hT hb4 HC3
  go_wp2_with (go_at_call 35; (first | (with_reducible refine (hn22 _).mono ?_) | (with_reducible refine (hn44 _).mono ?_)); rintro _ _ ⟨rfl, rfl⟩)
  refine HC4.out.mono ?_
  rintro e w5 ⟨rfl, hT, hb5⟩
  have hT : TreeAt (fun x => w.heap.size ≤ x ∧ x < w5.heap.size) w5 T 9 ex4 := hT.bound
  have HCP := Lib.hid (copy_any hT (by decide))
  have HT5 := Lib.hid (And.intro hT hb5)
  clear hT hb5 HC4
  go_wp2_with fail
  refine HCP.out.mono ?_
  rintro e w6 ⟨C, rfl, hC6, hb6⟩
  have hT6 := HT5.out.1.keep hb6
  have hd6 := drop_any a2 ex_good hT6 (by decide)
  rw [HX.out.1] at hd6
  have HD6 := Lib.hid hd6
  clear hd6
  have HC6 := Lib.hid (And.intro hC6 hb6)
  clear hT6 hC6 hb6 HCP
  go_wp2_with (go_at_call 35; (with_reducible refine (hn22 _).mono ?_); rintro _ _ ⟨rfl, rfl⟩)
  refine HD6.out.mono ?_
  rintro e w7 ⟨v7, rfl, hs7, hT7, ho7⟩
  have hC7 : TreeAt (fun x => w5.heap.size ≤ x ∧ x < w6.heap.size) w7 C 9 ex4 := HC6.out.1.out ho7 (fun x h1 _ h2 => by omega)
  have HD7 := Lib.hid (drop_any a1 ex_good hC7 (by decide))
  obtain ⟨A7, c7, rfl, -⟩ := readsS hs7
  have HS7 := Lib.hid (And.intro hs7 (And.intro hT7 ho7))
  clear hs7 hT7 ho7 hC7 HD6
  go_wp2_with (go_at_call 35; (with_reducible refine (hn11 _).mono ?_); rintro _ _ ⟨rfl, rfl⟩)
  refine HD7.out.mono ?_
  rintro e w8 ⟨v8, rfl, hs8, hT8, ho8⟩
  obtain ⟨A8, c8, e8, -⟩ := readsS hs8
  rw [HX.out.2.2] at e8
  subst e8
  have hT8 : TreeAt (OrT (fun x => w.heap.size ≤ x ∧ x < w5.heap.size) w6.heap.size w7.heap.size) w8 T 9 (Tr.drop ex4 a2) := HS7.out.2.1.out ho8 (fun x h1 _ h2 => by
    rcases h1 with h1 | h1
    · omega
    · omega)
  have hs78 := own_kept HS7.out.1 (fun k hk => ho8.block k (World.ownsRow.lt HS7.out.1 k hk).2 (fun h => by have := (World.ownsRow.lt HS7.out.1 k hk).1; omega))
  have hb8 : Below w.heap.size w w8 := by
    have b5 := HT5.out.2
    have b6 := b5.trans (HC6.out.2.mono b5.size)
    have b7 := b6.trans (HS7.out.2.2.below (base := w.heap.size) (fun x _ h => h.1) b6.size)
    exact b7.trans (ho8.below (base := w.heap.size) (fun x _ h => Nat.le_trans b5.size h.1) b7.size)
  have HTX : Hid (Calls Tryz.prog 16 #[.slice A7 2 c7, .slice (some ⟨w8.heap.size, 0, none⟩) 2 2] (w8.alloc (.cells #[.string (S a2), .string (S a4)] 9)) fun e w' => e = .returned (.bool true) ∧ Below w8.heap.size w8 w') := Lib.hid (by
    have hba : Below w8.heap.size w8 (w8.alloc (.cells #[.string (S a2), .string (S a4)] 9)) := (Below.refl _ _).alloc (Nat.le_refl _) _
    obtain ⟨A', c', e', hc'⟩ := readsS (own_below hs78 hba)
    injection e' with e1 e2 e3
    subst e1 e3
    refine (texts_any A7 (some ⟨w8.heap.size, 0, none⟩) c7 2 [a2, a4] [a2, a4] _ hc' (fun _ => ⟨w8.heap.size, 0, rfl, by simp, fun k hk => ?_⟩) (by simp)).mono fun e w' ⟨he, n, hw⟩ => ⟨by rw [he, decide_eq_true rfl], ?_⟩
    · have hk2 : k = 0 ∨ k = 1 := by
        have : k < 2 := hk
        omega
      rcases hk2 with rfl | rfl
      · exact cell_of_row _ _ 0 _ _ _ (heap_alloc_new w8 _)
      · exact cell_of_row _ _ 1 _ _ _ (heap_alloc_new w8 _)
    · rw [hw]
      exact below_drewN hba n)
  have HALL := Lib.hid (fun (w' : World) (hb : Below w8.heap.size w8 w') => all_any (hT8.keep hb) (by rw [HX.out.2.1]; decide))
  have HB8 := Lib.hid hb8
  have HX2 := Lib.hid HX.out.2.1
  clear hs8 hT8 ho8 hs78 hb8 HD7 HS7 HC6 HT5 HX
  go_wp2_with (first
    | (go_at_call 35; (first | (with_reducible refine (hn22 _).mono ?_) | (with_reducible refine (hn44 _).mono ?_)); rintro _ _ ⟨rfl, rfl⟩)
    | (go_at_call 16; refine HTX.out.mono ?_; rintro _ w9 ⟨rfl, hb9⟩)
    | (go_at_call 18; refine (HALL.out w9 hb9).mono ?_; rintro _ w10 ⟨v10, rfl, hr10, hb10⟩; obtain ⟨A10, c10, e10, -⟩ := hr10.form; rw [HX2.out] at e10; subst e10))
  go_ret
  exact ⟨rfl, HB8.out.trans ((hb9.trans (hb10.mono hb9.size)).mono HB8.out.size)⟩
theorem Tryz.heldRec : Tryz.prog.stoodInHeld 30 = false := by kernel_rfl
theorem Tryz.guardRec : Tryz.prog.eqGuardType Tryz.prog.depth 30 = false := by kernel_rfl
theorem Tryz.fieldsRec : Tryz.prog.underlying 30 = some (.struct (Tryz.prog.fieldsOf 30)) := by kernel_rfl
theorem run_ne_rec (w : World) (x y : Rk.R) : (binOp .neq 30 (.agg #[.int .i64 x.kind, .string (S x.name), .string (S x.parent), .string (S x.user), .string (S x.service), .string (S x.url), .int .i64 x.made, .int .i64 x.used, .int .i64 x.uses, .bool x.fresh]) (.agg #[.int .i64 y.kind, .string (S y.name), .string (S y.parent), .string (S y.user), .string (S y.service), .string (S y.url), .int .i64 y.made, .int .i64 y.used, .int .i64 y.uses, .bool y.fresh])).run Tryz.prog w = .ok (.bool (!decide (x = y))) w := by
  rw [run_neq_struct, run_equalIn_struct w 9999 _ _ _ Tryz.fieldsRec Tryz.heldRec]
  have hS := S_list
  simp [Program.fieldsOf, Tryz.underlying30, Op.eqFields, go_sem, hS]
  rw [show decide (x = y) = decide (x.kind = y.kind ∧ x.name = y.name ∧ x.parent = y.parent ∧ x.user = y.user ∧ x.service = y.service ∧ x.url = y.url ∧ x.made = y.made ∧ x.used = y.used ∧ x.uses = y.uses ∧ x.fresh = y.fresh) from by rw [decide_eq_decide]; exact Rk.eq_iff x y]
  repeat' split
  all_goals simp_all
set_option maxHeartbeats 3200000 in
theorem recordsT_any (w : World) (A A' : Option Addr) (c c' : Nat) (l l' : List Rk.R) (h : RCells w w.heap.size A l) (h' : RCells w w.heap.size A' l') (hl : l.length ≤ 1048576) :
    Calls Tryz.prog 17 #[.slice A l.length c, .slice A' l'.length c'] w fun e w' => e = .returned (.bool (decide (l = l'))) ∧ Below w.heap.size w w' := by
  by_cases hnn : l.length = l'.length
  · have HL := Lib.hid h
    have HL' := Lib.hid h'
    have HN := Lib.hid hnn
    obtain ⟨n, hn⟩ : ∃ n, n = l.length := ⟨_, rfl⟩
    rw [← hnn, ← hn]
    rw [← hn] at hl
    have HN2 := Lib.hid hn
    clear h h' hnn hn
    go_enter Tryz.func17, Tryz.ntmps17
    go_wp2_with fail
    go_loopw [5] (fun iv wr => ∃ (k : Nat), k ≤ n ∧ iv = .int .i64 (k : Int) ∧ l.take k = l'.take k ∧ Below w.heap.size w wr) (fun iv _ => n - (intOf iv).toNat)
    case atStart => exact ⟨0, Nat.zero_le _, rfl, rfl, Below.refl _ _⟩
    case round =>
      obtain ⟨k, hk, rfl, htk, hb⟩ := hrel
      have HB := Lib.hid hb
      have HT := Lib.hid htk
      by_cases hlt : k < n
      · have hlk : k < l.length := by rw [← HN2.out]; exact hlt
        have hlk' : k < l'.length := by rw [← HN.out]; exact hlk
        obtain ⟨b, off, rfl, hbl, hc⟩ := HL.out.at10 k hlk
        obtain ⟨b', off', rfl, hbl', hc'⟩ := HL'.out.at10 k hlk'
        have hk1 := hc.keep hb hbl
        have hk2 := hc'.keep hb hbl'
        have hkI : (k : Int) < (n : Int) := by omega
        have hk0 : (0 : Int) ≤ (k : Int) := by omega
        have HGK := Lib.hid (⟨List.take_succ_eq_append_getElem hlk, List.take_succ_eq_append_getElem hlk'⟩ : l.take (k + 1) = l.take k ++ [l[k]] ∧ l'.take (k + 1) = l'.take k ++ [l'[k]])
        have HNE : Hid (l[k] ≠ l'[k] → l ≠ l') := Lib.hid (fun h1 e => h1 (by congr 1))
        have HLT := Lib.hid hlt
        obtain ⟨x, hx⟩ : ∃ x, x = l[k] := ⟨_, rfl⟩
        obtain ⟨y, hy⟩ : ∃ y, y = l'[k] := ⟨_, rfl⟩
        rw [← hx] at hk1 HGK HNE
        rw [← hy] at hk2 HGK HNE
        obtain ⟨c0, c1, c2, c3, c4, c5, c6, c7, c8, c9⟩ := hk1
        obtain ⟨d0, d1, d2, d3, d4, d5, d6, d7, d8, d9⟩ := hk2
        have hneq := fun w' : World => run_ne_rec w' x y
        have hgd := fun w' : World => run_eqGuard_agg (P := Tryz.prog) w' .neq 30 (.tmp 20) (.tmp 24) #[.int .i64 x.kind, .string (S x.name), .string (S x.parent), .string (S x.user), .string (S x.service), .string (S x.url), .int .i64 x.made, .int .i64 x.used, .int .i64 x.uses, .bool x.fresh] #[.int .i64 y.kind, .string (S y.name), .string (S y.parent), .string (S y.user), .string (S y.service), .string (S y.url), .int .i64 y.made, .int .i64 y.used, .int .i64 y.uses, .bool y.fresh] Tryz.guardRec
        clear hx hy hc hc' hb htk hlk hlk' hbl hbl'
        by_cases hq : x = y
        · rw [decide_eq_true hq] at hneq
          have HQ := Lib.hid hq
          clear hq
          go_wp2_with fail
          go_quiet (fail)
          go_wp2_with fail
          go_roundw
          case rel => exact ⟨k + 1, by have := HLT.out; omega, by go_num, by rw [HGK.out.1, HGK.out.2, HT.out, HQ.out], below_drewN HB.out _⟩
          case measure => have := HLT.out; simp [intOf]; omega
        · rw [decide_eq_false hq] at hneq
          have HQ : Hid (decide (l = l') = false) := Lib.hid (decide_eq_false (HNE.out hq))
          clear hq
          go_wp2_with fail
          go_quiet (fail)
          go_wp2_with fail
          go_ret
          rw [HQ.out]
          exact ⟨rfl, below_drewN HB.out _⟩
      · have hkI : ¬ (k : Int) < (n : Int) := by omega
        have HE : Hid (decide (l = l') = true) := Lib.hid (decide_eq_true (by
          rw [List.take_of_length_le (by have := HN2.out; omega), List.take_of_length_le (by have := HN2.out; have := HN.out; omega)] at htk
          exact htk))
        clear hb htk
        go_wp2_with fail
        go_ret
        rw [HE.out]
        exact ⟨rfl, HB.out⟩
  · have hnI : ¬ (l.length : Int) = (l'.length : Int) := by omega
    have HE : Hid (decide (l = l') = false) := Lib.hid (decide_eq_false (fun e => hnn (by rw [e])))
    clear h h' hnn
    go_enter Tryz.func17, Tryz.ntmps17
    go_wp2_with fail
    go_ret
    rw [HE.out]
    exact ⟨rfl, Below.refl _ _⟩
end Go.Proofs.YtfeaonbeklmfgaaGreatDoor
