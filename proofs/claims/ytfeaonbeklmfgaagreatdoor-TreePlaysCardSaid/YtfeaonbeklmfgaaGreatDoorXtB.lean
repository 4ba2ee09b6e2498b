/- The document's Kids, Path and Below of trees. Condition: each parent lies ahead of its kids. -/
import Derived.Test.YtfeaonbeklmfgaaGreatDoorXtA
namespace Go.Proofs.YtfeaonbeklmfgaaGreatDoor
set_option maxRecDepth 8000
open Go.RowKit

/-- The document's Kids tells what the program's does. -/
theorem kidsT_one {m : Nat} {l : List Rk.R} (hg : Tr.Good m l) (n : List UInt8) : kidsT l n = if n = [] then [] else Tr.kids l n := by
  unfold kidsT
  by_cases hn : n = []
  · rw [if_pos hn, if_neg]
    intro h
    exact hg.nm (Tr.has_iff.1 h) hn
  · rw [if_neg hn]
    split
    · rfl
    · next h =>
      unfold Tr.kids
      symm
      rw [List.map_eq_nil_iff, List.filter_eq_nil_iff]
      intro r hr hp
      rw [decide_eq_true_iff] at hp
      obtain ⟨i, hi, rfl⟩ := List.getElem_of_mem hr
      rcases hg.up_at hi with h1 | h1
      · exact hn (hp.symm.trans h1)
      · rw [hp] at h1
        exact h (Tr.has_iff.2 (by omega))
def kidsX (l : List Rk.R) (n : List UInt8) (k : Nat) : List (List UInt8) := if n = [] then [] else kidsUpto l n k
set_option maxHeartbeats 1600000 in
theorem kids_anyX {G : Nat → Prop} {w : World} {T room m : Nat} {l : List Rk.R} (n : List UInt8) (hg : Tr.Good m l) (h : XAt G w T room l) (hl : l.length ≤ 1048576) :
    Calls Tryz.prog 20 #[.pointer (some ⟨T, 0, none⟩), .string (S n)] w fun e w' => ∃ v, e = .returned v ∧ SRow w.heap.size w' v (kidsT l n) ∧ Below w.heap.size w w' := by
  have HK : Hid (kidsT l n = kidsX l n l.length) := Lib.hid (by rw [kidsT_one hg n]; unfold kidsX kidsUpto; rw [List.take_of_length_le (Nat.le_refl _)])
  have HT := Lib.hid h
  obtain ⟨-, A, cap, -, hc⟩ := h.cells
  have HAC : Hid (∀ w', Below w.heap.size w w' → ∃ A cap, w'.cell? ⟨T, 1, none⟩ = some (.slice A l.length cap) ∧ RCells w' w'.heap.size A l) := Lib.hid fun w' hb => (h.keep hb).cells.2
  obtain ⟨A, cap, htc, hcc⟩ := HAC.out w (Below.refl _ _)
  have HTC := Lib.hid (fun (w' : World) (hb : Below w.heap.size w w') => ((hb.cell (p := ⟨T, 1, none⟩) h.lt).trans htc : w'.cell? ⟨T, 1, none⟩ = some (.slice A l.length cap)))
  have HC := Lib.hid hcc
  clear h hc hg htc hcc HAC
  go_enter Tryz.func20, Tryz.ntmps20
  go_wp2_with fail
  go_loopw [5, 6] (fun vs iv wr => ∃ k : Nat, k ≤ l.length ∧ iv = .int .i64 k ∧ SRow w.heap.size wr vs (kidsX l n k) ∧ Below w.heap.size w wr) (fun _ iv _ => l.length - (intOf iv).toNat)
  case atStart => exact ⟨0, Nat.zero_le _, rfl, by unfold kidsX kidsUpto; split <;> exact World.ownsRow_nil _ _ _ _, Below.refl _ _⟩
  case round =>
    obtain ⟨k, hk, rfl, hrow, hb⟩ := hrel
    have hbs := hb.size
    have htc := HTC.out wr hb
    by_cases hlt : k < l.length
    · obtain ⟨b, off, rfl, hbb, h6⟩ := HC.out.at10 k hlt
      have hat := h6.keep hb hbb
      have hkl : (kidsX l n k).length ≤ k := by
        unfold kidsX
        split
        · simp
        · exact kidsUpto_len
      have HHIT := Lib.hid (fun (h0 : n ≠ []) (h : l[k].parent = n) => show kidsX l n (k + 1) = kidsX l n k ++ [l[k].name] by unfold kidsX; rw [if_neg h0, if_neg h0]; exact kidsUpto_hit hlt h)
      have HMISS := Lib.hid (fun (h : l[k].parent ≠ n ∨ n = []) => show kidsX l n (k + 1) = kidsX l n k by
        unfold kidsX
        by_cases h0 : n = []
        · rw [if_pos h0, if_pos h0]
        · rw [if_neg h0, if_neg h0]
          exact kidsUpto_miss hlt (h.resolve_right h0))
      have HLT := Lib.hid hlt
      clear h6
      generalize l[k] = x at hat HHIT HMISS
      have d1 := hat.c1
      have d2 := hat.c2
      have n0 : (0 : Int) ≤ (k : Int) := by omega
      have n1 : (k : Int) < (l.length : Int) := by omega
      have hS := S_beq x.parent n
      have hE := S_empty n
      have hrowN := hrow
      clear hat hlt
      by_cases hp : x.parent = n
      · rw [decide_eq_true hp] at hS
        by_cases h0 : n = []
        · have HN := Lib.hid (HMISS.out (.inr h0))
          have hE2 : ((S n).toList != []) = false := by rw [S_list, h0]; rfl
          rw [show n.isEmpty = true from by rw [h0]; rfl] at hE
          clear hp h0 HHIT HMISS
          go_wp2_with fail
          go_roundw
          case rel => exact ⟨k + 1, by have := HLT.out; omega, by go_num, by rw [HN.out]; exact hrow, hb⟩
          case measure => have := HLT.out; simp [intOf]; omega
        · have HN := Lib.hid (HHIT.out h0 hp)
          have hE2 : ((S n).toList != []) = true := by rw [S_list]; simpa using h0
          rw [show n.isEmpty = false from by simpa using h0] at hE
          clear hp h0 HHIT HMISS
          go_wp2_with (at_builtin; refine wpList_name rfl (.tmp 30) (.tmp 39) w.heap.size wr.heap.size _ (kidsX l n k) x.name rfl rfl rfl (World.ownsRow.alloc hrow _) (heap_alloc_new wr _) (by omega) (by rw [World.size_alloc]; omega) ?_; intro g cg w6 hown6 _ _ hb6)
          go_roundw
          case rel => exact ⟨k + 1, by have := HLT.out; omega, by go_num, by rw [HN.out]; exact hown6, (hb.alloc hbs _).trans hb6⟩
          case measure => have := HLT.out; simp [intOf]; omega
      · rw [decide_eq_false hp] at hS
        have HN := Lib.hid (HMISS.out (.inl hp))
        clear hp HHIT HMISS
        go_wp2_with fail
        go_roundw
        case rel => exact ⟨k + 1, by have := HLT.out; omega, by go_num, by rw [HN.out]; exact hrow, hb⟩
        case measure => have := HLT.out; simp [intOf]; omega
    · have hkn : k = l.length := by omega
      subst hkn
      go_wp2_with fail
      go_ret
      exact ⟨_, rfl, by rw [HK.out]; exact hrow, hb⟩
/-- append(l, m...) of texts. -/
theorem wpList_names {W : World} {ops : Array Oper} {rest : List Oper} {o : Oper} {a : Act} {Q : Exit → Act → World → Prop} (hw : Region.wanted o (yielded ops a.tmps) = true) (s x : Operand) (base : Nat) (v : Value) (A : Option Addr) (c : Nat) (l m : List (List UInt8))
    (ho : o.op = .call { callee := .builtin .append, args := #[s, x], argTypes := #[34, 34] }) (hs : a.eval s = v) (hx : a.eval x = .slice A m.length c)
    (hown : SRow base W v l) (hc : SCells W W.heap.size A m) (hm0 : 0 < m.length) (hb : base ≤ W.heap.size) (hl : l.length + m.length ≤ 1048576)
    (h : ∀ v' W', SRow base W' v' (l ++ m) → W.grownBy W' v.ownBlock → (v'.ownBlock = v.ownBlock ∨ v'.ownBlock = some W.heap.size) → Below base W W' → wpList Tryz.prog ops Q rest (a.put o.dst v') W') : wpList Tryz.prog ops Q (o :: rest) a W := by
  obtain ⟨i0, hi, hz0, hz1, hz2⟩ := info_parts Tryz.infoString
  obtain ⟨b, off, rfl, hlt, hcc⟩ := hc hm0
  refine BigFrame.wpList_want hw fun K hK' => ?_
  obtain ⟨v', W', hr, h2, h3, h4, h5⟩ := run_append_own_at (P := Tryz.prog) W base 34 o.type 9 i0 _ 1 16 Tryz.underlying34 hi hz0 hz1 hz2 rfl (by omega) v l.length (strsV l) hown ⟨b, off, none⟩ m.length c (strsV m) (by simp [strsV]) (fun j u hu => by
      have hj : j < m.length := by
        have := (List.getElem?_eq_some_iff.1 hu).1
        simpa [strsV] using this
      rw [Addr.add_mid, hcc j hj]
      rw [← hu]
      simp [strsV, hj]) (by
      intro u hu
      unfold strsV at hu
      obtain ⟨q, _, rfl⟩ := List.mem_map.1 hu
      rfl) (by unfold maxLen; omega) (by omega) hb
  unfold Oper.wp execOp
  simp only [ho, resolve, invoke, builtin, Sem.run_bind, Sem.run_pure, Result.andThen_ok, List.map_toArray, List.map_cons, List.map_nil, hs, hx, hr]
  refine hK' _ _ (h v' W' ?_ h3 h5 ((Below.refl _ _).grown h3 hb (fun k hk => (World.ownsRow.lt hown k hk).1)))
  unfold SRow
  rw [List.length_append]
  have e : strsV (l ++ m) = strsV l ++ strsV m := by simp [strsV]
  rw [e]
  exact h2
set_option maxHeartbeats 3200000 in
theorem path_anyX {G : Nat → Prop} {w : World} {T room m : Nat} {l : List Rk.R} (n : List UInt8) (hg : Tr.Good m l) (h : XAt G w T room l) (hl : l.length ≤ 1048576) :
    Calls Tryz.prog 24 #[.pointer (some ⟨T, 0, none⟩), .string (S n)] w fun e w' => ∃ v, e = .returned v ∧ SRow w.heap.size w' v (Tr.path l n) ∧ Below w.heap.size w w' := by
  have HAT := Lib.hid (fun (c : List UInt8) (w' : World) (hb : Below w.heap.size w w') => at_anyX c (h.keep hb) hl)
  have HGD := Lib.hid hg
  obtain ⟨-, A, cap, htc, hcc⟩ := h.cells
  have HTC := Lib.hid (fun (w' : World) (hb : Below w.heap.size w w') => ((hb.cell (p := ⟨T, 1, none⟩) h.lt).trans htc : w'.cell? ⟨T, 1, none⟩ = some (.slice A l.length cap)))
  have HC := Lib.hid hcc
  have HA0 := Lib.hid (HAT.out n w (Below.refl _ _))
  clear h hg htc hcc
  go_enter Tryz.func24, Tryz.ntmps24
  go_wp2_with fail
  refine HA0.out.mono ?_
  rintro _ _ ⟨rfl, rfl⟩
  go_wp2_with fail
  go_loopw [5, 6] (fun vs vi wr => ∃ (acc : List (List UInt8)) (cur : List UInt8), SRow w.heap.size wr vs acc ∧ vi = .int .i64 (plI l cur) ∧ Below w.heap.size w wr ∧ Hid ((∃ f, Tr.path l n = acc ++ Tr.pth l f cur ∧ (Tr.pl l cur < l.length → Tr.pl l cur < f)) ∧ (Tr.pl l cur < l.length → acc.length + Tr.pl l cur < l.length) ∧ acc.length ≤ l.length)) (fun vs vi _ => (l.length - sliceLen vs) + (if 0 ≤ intOf vi then 1 else 0))
  case atStart => exact ⟨[], n, World.ownsRow_nil _ _ _ _, rfl, Below.refl _ _, Lib.hid ⟨⟨l.length, rfl, fun h => h⟩, fun h => by simpa using h, by simp⟩⟩
  case round =>
    clear HA0
    obtain ⟨acc, cur, hrow, rfl, hb, hh⟩ := hrel
    have hbs := hb.size
    by_cases hc : Tr.pl l cur < l.length
    · have e1 : plI l cur = (Tr.pl l cur : Int) := by unfold plI; rw [if_pos hc]
      rw [e1]
      have hnm := Tr.pl_name hc
      have hup := HGD.out.up_at hc
      obtain ⟨⟨f, hf1, hf2⟩, hf3, hf4⟩ := hh.out
      have hf2 := hf2 hc
      have hf3 := hf3 hc
      obtain ⟨f', rfl⟩ : ∃ f', f = f' + 1 := ⟨f - 1, by omega⟩
      rw [Tr.pth, dif_pos hc] at hf1
      have HN : Hid ((∃ f, Tr.path l n = (acc ++ [cur]) ++ Tr.pth l f l[Tr.pl l cur].parent ∧ (Tr.pl l l[Tr.pl l cur].parent < l.length → Tr.pl l l[Tr.pl l cur].parent < f)) ∧ (Tr.pl l l[Tr.pl l cur].parent < l.length → (acc ++ [cur]).length + Tr.pl l l[Tr.pl l cur].parent < l.length) ∧ (acc ++ [cur]).length ≤ l.length) := Lib.hid (by
        rw [List.length_append, List.length_singleton]
        refine ⟨⟨f', by rw [hf1]; simp, fun h => ?_⟩, fun h => ?_, by omega⟩
        · rcases hup with h1 | h1
          · exact absurd h1 (HGD.out.nm h)
          · omega
        · rcases hup with h1 | h1
          · exact absurd h1 (HGD.out.nm h)
          · omega)
      have hacc : acc.length < l.length := by omega
      have hsl := srow_len hrow
      obtain ⟨b, off, rfl, hbb, h6⟩ := HC.out.at10 _ hc
      have HPL := Lib.hid hc
      have i0 : (0 : Int) ≤ (Tr.pl l cur : Int) := by omega
      have i1 : (Tr.pl l cur : Int) < (l.length : Int) := by omega
      have h6r := h6.keep hb hbb
      clear hh hf1 hf2 hf3 hf4 hup e1 h6
      generalize l[Tr.pl l cur] = y at h6r hnm HN
      subst hnm
      have HY := Lib.hid h6r
      have d1 := h6r.c1
      have htc := HTC.out wr hb
      generalize hjj : Tr.pl l y.name = j at i0 i1 h6r d1 HY hc HPL
      clear h6r hc hjj
      go_wp2_with (at_builtin; refine wpList_name rfl (.tmp 12) (.tmp 21) w.heap.size wr.heap.size _ acc y.name rfl rfl rfl (World.ownsRow.alloc hrow _) (heap_alloc_new wr _) (by omega) (by rw [World.size_alloc]; omega) ?_; intro g cg w6 hown6 _ _ hb6; have hb06 := (hb.alloc hbs _).trans hb6; have htc6 := HTC.out w6 hb06; have d2 := (HY.out.keep ((Below.refl w.heap.size wr).alloc hbs _ |>.trans hb6) hbb).c2)
      have HRW := Lib.hid (And.intro hown6 hb06)
      clear hown6 hb6 htc6 d2 d1 htc
      refine (HAT.out y.parent w6 hb06).mono ?_
      rintro _ _ ⟨rfl, rfl⟩
      clear hb06
      go_wp2_with fail
      go_roundw
      case rel => exact ⟨acc ++ [y.name], y.parent, HRW.out.1, rfl, HRW.out.2, HN⟩
      case measure =>
        have hq : (if 0 ≤ plI l y.parent then 1 else 0) ≤ 1 := by split <;> omega
        show (l.length - (acc.length + 1)) + (if 0 ≤ plI l y.parent then 1 else 0) < (l.length - sliceLen _) + (if 0 ≤ (j : Int) then 1 else 0)
        rw [if_pos i0]
        omega
    · have e1 : plI l cur = -1 := by unfold plI; rw [if_neg hc]
      rw [e1]
      have HF : Hid (Tr.path l n = acc) := Lib.hid (by
        obtain ⟨f, hf1, _⟩ := hh.out.1
        rw [hf1, Tr.pth_none hc, List.append_nil])
      go_wp2_with fail
      go_ret
      exact ⟨_, rfl, by rw [HF.out]; exact hrow, hb⟩
set_option maxHeartbeats 3200000 in
theorem bel_anyX {G : Nat → Prop} {w0 : World} {T room m : Nat} {l : List Rk.R} (hg : Tr.Good m l) (hT : XAt G w0 T room l) (hl : l.length ≤ 1048576) :
    ∀ (f : Nat) (n : List UInt8) (w : World), Below w0.heap.size w0 w → Tr.pl l n < l.length → l.length ≤ f + Tr.pl l n → (Tr.bel l f n).length ≤ 1000000 →
    Calls Tryz.prog 22 #[.pointer (some ⟨T, 0, none⟩), .string (S n)] w fun e w' => ∃ v, e = .returned v ∧ SRow w.heap.size w' v (Tr.bel l f n) ∧ Below w.heap.size w w'
  | 0, n, w, _, h1, h2, _ => by omega
  | f + 1, n, w, hb0, h1, h2, h3 => by
    have HIH := Lib.hid (bel_anyX hg hT hl f)
    have HAT := Lib.hid (at_anyX n (hT.keep hb0) hl)
    have e1 : plI l n = (Tr.pl l n : Int) := by unfold plI; rw [if_pos h1]
    rw [e1] at HAT
    have HB0 := Lib.hid hb0
    have HKA := Lib.hid (fun (w' : World) (hb : Below w.heap.size w w') => kids_anyX n hg (hT.keep (hb0.trans (hb.mono hb0.size))) hl)
    have hkt : kidsT l n = Tr.kids l n := by unfold kidsT; rw [if_pos (Tr.has_iff.2 h1)]
    have HKM := Lib.hid (fun (k : List UInt8) (hk : k ∈ Tr.kids l n) => hg.kid_up (hg.nm h1) hk)
    have hkl := kids_len l n
    obtain ⟨ks, hks⟩ : ∃ ks, ks = Tr.kids l n := ⟨_, rfl⟩
    rw [← hks] at hkt HKM hkl
    have HBE : Hid (Tr.bel l (f + 1) n = n :: ks.flatMap (Tr.bel l f)) := Lib.hid (by rw [hks]; rfl)
    rw [HBE.out, List.length_cons] at h3
    have HNUM := Lib.hid (And.intro h2 h3)
    have hj0 : (0 : Int) ≤ (Tr.pl l n : Int) := by omega
    have HK2 := Lib.hid hkt
    obtain ⟨j, hj⟩ : ∃ j, j = Tr.pl l n := ⟨_, rfl⟩
    rw [← hj] at HAT hj0
    clear hks hg hT h1 h2 h3 hkt e1 hb0 hj
    have hba : Below w.heap.size w (w.alloc (.cells #[.string (S n)] 9)) := (Below.refl _ _).alloc (Nat.le_refl _) _
    have hrow1 : SRow w.heap.size (w.alloc (.cells #[.string (S n)] 9)) (.slice (some ⟨w.heap.size, 0, none⟩) 1 1) [n] :=
      ⟨rfl, .inr ⟨w.heap.size, 1, _, rfl, Nat.le_refl _, heap_alloc_new w _, Nat.le_refl _, by unfold maxLen; omega, rfl, rfl⟩⟩
    have hlta : w.heap.size < (w.alloc (.cells #[.string (S n)] 9)).heap.size := by simp
    go_enter Tryz.func22, Tryz.ntmps22
    go_wp2_with fail
    refine HAT.out.mono ?_
    rintro _ _ ⟨rfl, rfl⟩
    go_upto_region 4 with fail
    generalize w.alloc (.cells #[.string (S n)] 9) = w2 at hba hrow1 hlta ⊢
    have HW2 := Lib.hid (And.intro hba (And.intro hrow1 hlta))
    clear hba hrow1 hlta HAT
    go_wp2_with fail
    refine (HKA.out w2 HW2.out.1).mono ?_
    rintro e w3 ⟨kv, rfl, hkr, hb3⟩
    rw [HK2.out] at hkr
    obtain ⟨KA, kc, rfl, -⟩ := readsS hkr
    have hz3 := hb3.size
    have HKR := Lib.hid hkr
    have HW3 := Lib.hid (And.intro (own_below HW2.out.2.1 hb3) (HW2.out.1.trans (hb3.mono HW2.out.1.size)))
    have hlt2 := HW2.out.2.2
    clear hkr hb3 HKA
    go_wp2_with fail
    go_loopw [5, 7] (fun vo iv wr => ∃ k : Nat, k ≤ ks.length ∧ iv = .int .i64 k ∧ SRow w.heap.size wr vo ([n] ++ (ks.take k).flatMap (Tr.bel l f)) ∧ SRow w2.heap.size wr (.slice KA ks.length kc) ks ∧ (∀ q, (Value.slice KA ks.length kc).ownBlock = some q → vo.ownBlock ≠ some q) ∧ Below w.heap.size w wr) (fun _ iv _ => ks.length - (intOf iv).toNat)
    case atStart => exact ⟨0, Nat.zero_le _, rfl, HW3.out.1, HKR.out, fun q hq e => by
      have h4 := (World.ownsRow.lt HKR.out q hq).1
      simp [Value.ownBlock] at e
      omega, HW3.out.2⟩
    case round =>
      obtain ⟨k, hk, rfl, hrow, hkr, hsep, hb⟩ := hrel
      have hbs := hb.size
      by_cases hlt : k < ks.length
      · obtain ⟨KA', kc', e, hcc⟩ := readsS hkr
        injection e with e1 e2 e3
        subst e1 e3
        obtain ⟨kb, ko, rfl, hkb, hcell⟩ := hcc (by omega)
        have hx := hcell k hlt
        have n0 : (0 : Int) ≤ (k : Int) := by omega
        have n1 : (k : Int) < (ks.length : Int) := by omega
        have hku := HKM.out ks[k] (List.getElem_mem hlt)
        have hfl := flat_take ks (Tr.bel l f) k hlt
        have hfn := flat_take_len ks (Tr.bel l f) k hlt
        have hf1 : 0 < (Tr.bel l f ks[k]).length := by
          obtain ⟨f', rfl⟩ : ∃ f', f = f' + 1 := ⟨f - 1, by have := HNUM.out.1; omega⟩
          rw [Tr.bel]
          simp
        have hca := HIH.out ks[k] wr (HB0.out.trans (hb.mono HB0.out.size)) hku.2 (by have := HNUM.out.1; omega) (by have := HNUM.out.2; omega)
        have hbd : ((ks.take k).flatMap (Tr.bel l f)).length + (Tr.bel l f ks[k]).length ≤ 1000000 := by have := HNUM.out.2; omega
        have HWS := Lib.hid (And.intro hrow (And.intro hkr (And.intro hsep hb)))
        have HFL := Lib.hid hfl
        have HLT := Lib.hid hlt
        clear hcell hcc hku hfn hfl hrow hkr hsep hkb hb
        generalize ks[k] = x at hx hca HFL hf1 hbd
        have HCA := Lib.hid hca
        generalize Tr.bel l f x = bx at HCA HFL hf1 hbd
        clear hca
        go_wp2_with fail
        refine HCA.out.mono ?_
        rintro e w5 ⟨v5, rfl, hr5, hb5⟩
        obtain ⟨A5, c5, rfl, hc5⟩ := readsS hr5
        have hro5 := own_below HWS.out.1 hb5
        have hbs5 := hb5.size
        have hlen : (([n] ++ (ks.take k).flatMap (Tr.bel l f)) : List (List UInt8)).length + bx.length ≤ 1048576 := by rw [List.length_append, List.length_singleton]; omega
        generalize hacc : [n] ++ (ks.take k).flatMap (Tr.bel l f) = acc at hro5 hlen
        clear hx
        go_wp2_with (at_builtin; refine wpList_names (by rfl) (.tmp 23) (.tmp 29) w.heap.size _ A5 c5 acc bx rfl rfl rfl hro5 hc5 hf1 (by omega) hlen ?_; intro v6 w6 hown6 hgr6 hat6 hb6)
        have hgr6 : World.grownBy _ w6 u5.ownBlock := hgr6
        have hat6 : v6.ownBlock = u5.ownBlock ∨ v6.ownBlock = some w5.heap.size := hat6
        have hk5 := own_below HWS.out.2.1 hb5
        have hk6 : SRow w2.heap.size w6 (.slice (some ⟨kb, ko, none⟩) ks.length kc) ks := World.ownsRow.kept hk5 hgr6 (.inr (fun e => by
          cases ho : (Value.slice (some ⟨kb, ko, none⟩) ks.length kc).ownBlock with
          | none => cases ho
          | some q => exact HWS.out.2.2.1 q ho (by rw [← e, ho])))
        have hsep6 : ∀ q, (Value.slice (some ⟨kb, ko, none⟩) ks.length kc).ownBlock = some q → v6.ownBlock ≠ some q := fun q hq e => by
          rcases hat6 with h | h
          · exact HWS.out.2.2.1 q hq (by rw [← h, e])
          · rw [h] at e
            injection e with e
            have := (World.ownsRow.lt HWS.out.2.1 q hq).2
            omega
        have HREL := Lib.hid (And.intro (show SRow w.heap.size w6 v6 ([n] ++ (ks.take (k + 1)).flatMap (Tr.bel l f)) by rw [HFL.out, ← List.append_assoc, hacc]; exact hown6) (And.intro hk6 (And.intro hsep6 (HWS.out.2.2.2.trans ((hb5.mono hbs).trans hb6)))))
        clear hown6 hgr6 hat6 hb6 hk5 hk6 hsep6 hr5 hc5 hro5 hb5 hacc HCA HWS
        go_wp2_with fail
        go_roundw
        case rel => exact ⟨k + 1, by have := HLT.out; omega, by go_num, HREL.out⟩
        case measure => have := HLT.out; simp [intOf]; omega
      · have hkn : k = ks.length := by omega
        subst hkn
        rw [List.take_of_length_le (Nat.le_refl _)] at hrow
        have HF := Lib.hid (And.intro hrow hb)
        clear hrow hkr hsep hb
        go_wp2_with fail
        go_ret
        exact ⟨_, rfl, by rw [HBE.out]; exact HF.out.1, HF.out.2⟩
set_option maxHeartbeats 800000 in
theorem below_anyX {G : Nat → Prop} {w : World} {T room m : Nat} {l : List Rk.R} (n : List UInt8) (hg : Tr.Good m l) (h : XAt G w T room l) (hl : l.length ≤ 1000000) :
    Calls Tryz.prog 22 #[.pointer (some ⟨T, 0, none⟩), .string (S n)] w fun e w' => ∃ v, e = .returned v ∧ SRow w.heap.size w' v (Tr.below l n) ∧ Below w.heap.size w w' := by
  by_cases hn : Tr.pl l n < l.length
  · have h1 := below_len n hg
    unfold Tr.below at h1 ⊢
    rw [if_pos (Tr.has_iff.2 hn)] at h1 ⊢
    exact bel_anyX hg h (by omega) l.length n w (Below.refl _ _) hn (by omega) (by omega)
  · rw [Tr.below_none hn]
    have HAT := Lib.hid (at_anyX n h (by omega))
    have e1 : plI l n = -1 := by unfold plI; rw [if_neg hn]
    rw [e1] at HAT
    clear h hg hn e1
    go_enter Tryz.func22, Tryz.ntmps22
    go_wp2_with fail
    refine HAT.out.mono ?_
    rintro _ _ ⟨rfl, rfl⟩
    go_wp2_with fail
    go_ret
    exact ⟨_, rfl, World.ownsRow_nil _ _ _ _, Below.refl _ _⟩
end Go.Proofs.YtfeaonbeklmfgaaGreatDoor
