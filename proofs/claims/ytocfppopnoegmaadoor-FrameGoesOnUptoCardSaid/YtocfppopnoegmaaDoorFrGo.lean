/- FrameGoesOn, over what package frame's calls tell, where the frames are of at most 2^24 bytes. -/
import Derived.Test.YtocfppopnoegmaaDoorFrCu
import Derived.Test.YtocfppopnoegmaaDoorFrG
namespace Go.Proofs.YtocfppopnoegmaaDoor
set_option maxRecDepth 8000
open Go.RowKit

theorem run_append_gen {P : Program} (w : World) (base : Nat) (t ty e : TypeId) (i : TypeInfo) (z : Value) (size bytes : Nat) (ht : P.underlying t = some (.slice e)) (hi : P.info? e = some i) (hz : i.zero = some z)
    (hsize : i.size = size) (hby : i.bytes = bytes) (hzs : z.cells.size = size) (hsz : 0 < size)
    (v : Value) (n : Nat) (xs : List Value) (hown : w.ownsRow base e size v n xs)
    (A : Option Addr) (m c : Nat) (news : List Value) (hl : news.length = m * size) (hnews : 0 < m → ∃ ad, A = some ad ∧ ∀ j u, news[j]? = some u → w.cell? (ad.add j) = some u) (h1 : ∀ u ∈ news, u.oneCell' = true)
    (h63 : n + m ≤ maxLen) (hbytes : (n + m) * bytes ≤ 140737488355328) (hbase : base ≤ w.heap.size) :
    ∃ v' w', (Builtin.append_ #[t, t] ty #[v, .slice A m c]).run P w = .ok v' w' ∧ w'.ownsRow base e size v' (n + m) (xs ++ news) ∧ w.grownBy w' v.ownBlock ∧ (v'.ownBlock = v.ownBlock ∨ v'.ownBlock = some w.heap.size) := by
  by_cases hm : 0 < m
  · obtain ⟨ad, rfl, hn⟩ := hnews hm
    obtain ⟨v', w', h2, h3, h4, _, h5⟩ := run_append_own_at (P := P) w base t ty e i z size bytes ht hi hz hsize hby hzs hsz v n xs hown ad m c news hl hn h1 h63 hbytes hbase
    exact ⟨v', w', h2, h3, h4, h5⟩
  · have hm0 : m = 0 := by omega
    subst hm0
    have hn : news = [] := List.eq_nil_of_length_eq_zero (by simpa using hl)
    subst hn
    rcases A with _ | ad
    · refine ⟨v, w, ?_, by rw [Nat.add_zero, List.append_nil]; exact hown, World.grownBy.refl w _, .inl rfl⟩
      rcases hown.2 with ⟨rfl, hn⟩ | ⟨g, cap, cur, rfl, _, _, hnc, _⟩
      · simp [Builtin.append_, run_underlying ht, sizeOf, typeInfo, hi, Builtin.lenOf, Builtin.firstCells]
      · simp [Builtin.append_, run_underlying ht, sizeOf, typeInfo, hi, Builtin.lenOf, Builtin.firstCells, hnc, storeCells]
    · obtain ⟨v', w', h2, h3, h4, _, h5⟩ := run_append_own_at (P := P) w base t ty e i z size bytes ht hi hz hsize hby hzs hsz v n xs hown ad 0 c [] hl (fun j u hu => by simp at hu) h1 h63 hbytes hbase
      exact ⟨v', w', h2, h3, h4, h5⟩

theorem wpList_append_list {w : World} {ops : Array Oper} {rest : List Oper} {o : Oper} {a : Act} {Q : Exit → Act → World → Prop} (hw : Region.wanted o (yielded ops a.tmps) = true) (s x : Operand)
    (ho : o.op = .call { callee := .builtin .append, args := #[s, x], argTypes := #[23, 23] })
    (base : Nat) (i : TypeInfo) (hi : Tryd.prog.info? 22 = some i) (hz : i.zero = some (.slice none 0 0)) (hsize : i.size = 1) (hby : i.bytes = 24)
    (v : Value) (n : Nat) (xs : List Value) (hs : a.eval s = v) (hown : w.ownsRow base 22 1 v n xs)
    (A : Option Addr) (m c : Nat) (news : List Value) (hx : a.eval x = .slice A m c) (hl : news.length = m) (hnews : 0 < m → ∃ ad, A = some ad ∧ ∀ j u, news[j]? = some u → w.cell? (ad.add j) = some u) (h1 : ∀ u ∈ news, u.oneCell' = true)
    (hnm : n + m ≤ 1048576) (hbase : base ≤ w.heap.size)
    (h : ∀ A' c' w', w'.ownsRow base 22 1 (.slice A' (n + m) c') (n + m) (xs ++ news) → w.grownBy w' v.ownBlock → wpList Tryd.prog ops Q rest (a.put o.dst (.slice A' (n + m) c')) w') :
    wpList Tryd.prog ops Q (o :: rest) a w :=
  BigFrame.wpList_want hw fun K hK => by
    obtain ⟨v', w', hr, h2, h3, _⟩ := run_append_gen (P := Tryd.prog) w base 23 o.type 22 i _ 1 24 Tryd.underlying23 hi hz hsize hby rfl (by omega) v n xs hown A m c news (by rw [hl, Nat.mul_one]) hnews h1 (by unfold maxLen; omega) (by omega) hbase
    have hform : ∃ A' c', v' = .slice A' (n + m) c' := by
      rcases h2.2 with ⟨rfl, hnm⟩ | ⟨g, cap, cur, rfl, _⟩
      · exact ⟨none, 0, by rw [hnm]⟩
      · exact ⟨_, cap, rfl⟩
    obtain ⟨A', c', rfl⟩ := hform
    unfold Oper.wp execOp
    simp only [ho, resolve, invoke, builtin, Sem.run_bind, Sem.run_pure, Result.andThen_ok, List.map_toArray, List.map_cons, List.map_nil, hs, hx, hr]
    exact hK _ _ (h A' c' w' h2 h3)
/-- The slices that a list holds. -/
theorem lc_news {w : World} {bd : Nat} {A : Option Addr} {l : List (List UInt8)} (h : LC w bd A l) : ∃ news : List Value, news.length = l.length ∧ (∀ k (hk : k < l.length), ∃ Ak ck, news[k]? = some (.slice Ak l[k].length ck) ∧ BCells w bd Ak l[k]) ∧
    (0 < l.length → ∃ ad, A = some ad ∧ ∀ j u, news[j]? = some u → w.cell? (ad.add j) = some u) ∧ ∀ u ∈ news, u.oneCell' = true := by
  rcases Nat.eq_zero_or_pos l.length with h0 | h0
  · exact ⟨[], h0.symm, fun k hk => absurd hk (by omega), fun hn => absurd hn (by omega), fun u hu => absurd hu (by simp)⟩
  · obtain ⟨b, off, rfl, _, hc⟩ := h h0
    have hs : ∀ i, i < l.length → ∃ q : Option Addr × Nat, ∀ hi : i < l.length, w.cell? ⟨b, off + i, none⟩ = some (.slice q.1 l[i].length q.2) ∧ BCells w bd q.1 l[i] := fun i hi => by
      obtain ⟨Ak, ck, e1, e2⟩ := hc i hi
      exact ⟨(Ak, ck), fun _ => ⟨e1, e2⟩⟩
    obtain ⟨q, hq⟩ := Deep.choose_lt (α := Option Addr × Nat) hs
    refine ⟨List.ofFn fun i : Fin l.length => .slice (q i.1).1 l[i.1].length (q i.1).2, by simp, fun k hk => ⟨(q k).1, (q k).2, ?_, (hq k hk hk).2⟩, fun _ => ⟨_, rfl, fun j u hu => ?_⟩, fun u hu => ?_⟩
    · rw [List.getElem?_ofFn, dif_pos hk]
    · rw [List.getElem?_ofFn] at hu
      by_cases hj : j < l.length
      · rw [dif_pos hj] at hu
        injection hu with hu
        rw [Addr.add_mid, ← hu]
        exact (hq j hj hj).1
      · rw [dif_neg hj] at hu; cases hu
    · obtain ⟨i, rfl⟩ := List.mem_ofFn.1 hu
      rfl
theorem lc_of_row {w : World} {base : Nat} {A : Option Addr} {n c : Nat} {l : List (List UInt8)} {cs : List Value} (h : w.ownsRow base 22 1 (.slice A n c) n cs) (hn : l.length = n)
    (hel : ∀ k (hk : k < l.length), ∃ Ak ck, cs[k]? = some (.slice Ak l[k].length ck) ∧ BCells w w.heap.size Ak l[k]) : LC w w.heap.size A l := fun h0 => by
  obtain ⟨g, cap, hv, _, hlt⟩ := World.ownsRow.form h (by omega)
  injection hv with hA _ _
  subst hA
  refine ⟨g, 0, rfl, hlt, fun k hk => ?_⟩
  obtain ⟨Ak, ck, e1, e2⟩ := hel k hk
  refine ⟨Ak, ck, ?_, e2⟩
  have := h.cells (g := g) rfl k _ e1
  rw [Addr.add_mid] at this
  exact this
theorem list_empty (w : World) (base : Nat) (hb : base ≤ w.heap.size) : (w.alloc (.cells #[] 22)).ownsRow base 22 1 (.slice (some ⟨w.heap.size, 0, none⟩) 0 0) 0 [] :=
  ⟨rfl, .inr ⟨w.heap.size, 0, #[], rfl, hb, heap_alloc_new w _, Nat.le_refl _, Nat.zero_le _, rfl, rfl⟩⟩
/-- Both lists' slices, one behind the other. -/
theorem both_at {w : World} {l m : List (List UInt8)} {n1 n2 : List Value} {bd bd' : Nat} {w1 w2 : World} (h1 : n1.length = l.length) (e1 : ∀ k (hk : k < l.length), ∃ Ak ck, n1[k]? = some (.slice Ak l[k].length ck) ∧ BCells w1 bd Ak l[k]) (b1 : Below bd w1 w) (z1 : bd ≤ w.heap.size)
    (e2 : ∀ k (hk : k < m.length), ∃ Ak ck, n2[k]? = some (.slice Ak m[k].length ck) ∧ BCells w2 bd' Ak m[k]) (b2 : Below bd' w2 w) (z2 : bd' ≤ w.heap.size) :
    ∀ k (hk : k < (l ++ m).length), ∃ Ak ck, (n1 ++ n2)[k]? = some (.slice Ak (l ++ m)[k].length ck) ∧ BCells w w.heap.size Ak (l ++ m)[k] := fun k hk => by
  by_cases hkl : k < l.length
  · obtain ⟨Ak, ck, h3, h4⟩ := e1 k hkl
    refine ⟨Ak, ck, ?_, ?_⟩
    · rw [List.getElem?_append_left (by omega), h3, List.getElem_append_left hkl]
    · rw [List.getElem_append_left hkl]
      exact (h4.keepB b1 (Nat.le_refl _)).moreB z1
  · have hk' : k - l.length < m.length := by rw [List.length_append] at hk; omega
    obtain ⟨Ak, ck, h3, h4⟩ := e2 (k - l.length) hk'
    refine ⟨Ak, ck, ?_, ?_⟩
    · rw [List.getElem?_append_right (by omega), h1, h3, List.getElem_append_right (by omega)]
    · rw [List.getElem_append_right (by omega)]
      exact (h4.keepB b2 (Nat.le_refl _)).moreB z2

set_option maxHeartbeats 6400000 in
theorem frameGoesOn_any {Env : World → Prop} (hF : FrOk Env) (A0 A1 : Option Addr) (c0 c1 n0 n1 : Nat) (s : List UInt8) (l : List (List UInt8)) (w : World) (hE : Env w)
    (hn0 : s.length = n0) (hs : BCells w w.heap.size A0 s) (hc0 : n0 ≤ c0) (hm0 : c0 ≤ 9223372036854775807)
    (hn1 : l.length = n1) (hl : LC w w.heap.size A1 l) (hc1 : n1 ≤ c1) (hm1 : c1 ≤ 9223372036854775807) (hq : ∀ b ∈ l, b.length ≤ 9223372036854775807) (hot : Fr.okTotal l ≤ 16777216) :
    Calls Tryd.prog 6 #[.slice A0 n0 c0, .slice A1 n1 c1] w fun e w' => e = .returned (.bool true) ∧ Below w.heap.size w w' := by
  have HN0 := Lib.hid hn0
  have HN1 := Lib.hid hn1
  have HQ := Lib.hid hq
  have HF := Lib.hid hF
  have HOT := Lib.hid hot
  obtain ⟨few, hfew⟩ : ∃ x, x = Fr.few l := ⟨_, rfl⟩
  have HFEW := Lib.hid hfew
  clear hn0 hn1 hq hF hot hfew
  go_enter Tryd.func6, Tryd.ntmps6
  go_wp2_with fail
  refine (awake9_any HF.out w hE).mono ?_
  rintro _ w1 ⟨rfl, hb1⟩
  have hE1 := HF.out.next _ _ hE hb1
  have hl := hl.next hb1
  have hs := hs.next hb1
  go_wp2_with fail
  refine (refFew_any A1 c1 n1 l w1 HN1.out hl (by omega) HQ.out).mono ?_
  rintro _ w' ⟨rfl, rfl⟩
  rw [← HFEW.out]
  have HP := Lib.hid (HF.out.all A1 c1 n1 l w1 hE1 HN1.out hl hc1 hm1 HOT.out HQ.out)
  go_wp2_with fail
  refine HP.out.mono ?_
  rintro _ w2 hp
  obtain ⟨Ax, cx, mx, rfl, hmx, hbx, hcx, hcm, hb2⟩ := hp.form
  have hE2 := HF.out.next _ _ hE1 hb2
  have hbw := hb1.trans (hb2.mono hb1.size)
  have hl := hl.next hb2
  have hs := hs.next hb2
  obtain ⟨kx, hkx⟩ : ∃ k, k = codeOf (Fr.all l) := ⟨_, rfl⟩
  rw [← hkx]
  have HKX := Lib.hid hkx
  have HMX := Lib.hid hmx
  have HBX := Lib.hid hbx
  clear hp hb2 hE1 hb1 hkx hmx hbx HP
  obtain ⟨st, hst⟩ : ∃ x : Bool, x = (!few || !decide (kx = 0) || decide (700 < n0)) := ⟨_, rfl⟩
  have HST := Lib.hid hst
  clear hst
  go_upto_region 4 with fail
  go_cut [36] (fun t wx => t = .bool st ∧ wx = w2)
  case first =>
    cases few with
    | false =>
      have hbv : st = true := by rw [HST.out, show (!false) = true from rfl, Bool.true_or, Bool.true_or]
      subst hbv
      go_wp2_with fail
      go_meet
      first | exact ⟨rfl, rfl⟩ | exact ⟨congrArg Value.bool (by first | rfl | (simp; done) | (simp; omega)), rfl⟩
    | true =>
      by_cases h0 : kx = 0
      · have e0 : (kx != 0) = false := by rw [h0]; rfl
        by_cases h1 : 700 < n0
        · have e1 : (700 : Int) < (n0 : Int) := by omega
          have hbv : st = true := by rw [HST.out, decide_eq_true h1, Bool.or_true]
          subst hbv
          clear h0
          go_wp2_with fail
          go_meet
          first | exact ⟨rfl, rfl⟩ | exact ⟨congrArg Value.bool (by first | rfl | (simp; done) | (simp; omega)), rfl⟩
        · have e1 : ¬ (700 : Int) < (n0 : Int) := by omega
          have hbv : st = false := by rw [HST.out, decide_eq_true h0, decide_eq_false h1]; rfl
          subst hbv
          clear h0
          go_wp2_with fail
          go_meet
          first | exact ⟨rfl, rfl⟩ | exact ⟨congrArg Value.bool (by first | rfl | (simp; done) | (simp; omega)), rfl⟩
      · have e0 : (kx != 0) = true := by simpa using h0
        have hbv : st = true := by rw [HST.out, decide_eq_false h0, show (!false) = true from rfl, Bool.or_true, Bool.true_or]
        subst hbv
        clear h0
        go_wp2_with fail
        go_meet
        first | exact ⟨rfl, rfl⟩ | exact ⟨congrArg Value.bool (by first | rfl | (simp; done) | (simp; omega)), rfl⟩
  case rest =>
    obtain ⟨hc1', hc2'⟩ := hcut
    subst hc1'
    replace hc2' := hc2'.symm
    subst hc2'
    cases st with
    | true =>
      go_wp2_with fail
      go_ret
      exact ⟨rfl, hbw⟩
    | false =>
      have hfacts : few = true ∧ kx = 0 ∧ n0 ≤ 700 := by
        have h := HST.out
        cases few with
        | false => cases h
        | true =>
          refine ⟨rfl, ?_, ?_⟩
          · by_cases h0 : kx = 0
            · exact h0
            · rw [decide_eq_false h0] at h; simp at h
          · by_cases h0 : 700 < n0
            · rw [decide_eq_true h0] at h; simp at h
            · omega
      obtain ⟨hf1, hk0, h700⟩ := hfacts
      have hok := all_code (HKX.out.symm.trans hk0)
      have hall := Fr.all_of_ok hok
      have hm := HMX.out
      have hbx := HBX.out
      rw [hall] at hm hbx
      have hbx : BCells w2 w2.heap.size Ax (Fr.frames l) := hbx
      have hm : (Fr.frames l).length = mx := hm
      have hmt : mx ≤ 2120 := by
        have h1 := Fr.frames_total l
        have h2 := Fr.okTotal_take l l.length (by rw [List.take_length]; exact hok)
        rw [List.take_length] at h2
        have := Fr.okTotal_few (HFEW.out.symm.trans hf1)
        omega
      have hn20 : n1 ≤ 20 := by
        have h := HFEW.out.symm.trans hf1
        unfold Fr.few at h
        rw [Bool.and_eq_true] at h
        have := of_decide_eq_true h.2
        have := HN1.out
        omega
      obtain ⟨t1, t2, t3, t4⟩ := Fr.scan_is s.length s (Nat.le_refl _)
      have hsr := Fr.scan_rest s
      have hle := Fr.scan_le s
      have HS := Lib.hid (HF.out.scan A0 c0 n0 s w2 hE2 HN0.out hs hc0 hm0 (by omega))
      obtain ⟨ms, hms⟩ : ∃ x, x = (Fr.scan s).1 := ⟨_, rfl⟩
      obtain ⟨nn, hnn⟩ : ∃ x, x = (Fr.scan s).2 := ⟨_, rfl⟩
      unfold ToldPost at HS
      rw [← hms, ← hnn] at HS
      rw [← hms] at t1 t2 t3
      rw [← hnn] at t2 t3 hsr hle
      have hnl : nn ≤ n0 := by have := HN0.out; omega
      have htk : s.take nn = Fr.frames ms := by
        conv => lhs; rw [t2]
        rw [t3, List.take_left]
      have hmc : ms.length ≤ nn := by
        have h1 := Fr.total_count ms
        have h2 := Fr.frames_total ms
        omega
      have HTK := Lib.hid htk
      have HT3 := Lib.hid t3.symm
      have HOKM := Lib.hid t1
      have HSR := Lib.hid hsr
      have HOKL := Lib.hid hok
      have HMXX := Lib.hid hm
      have HMC := Lib.hid hmc
      subst hk0
      clear hf1 hok hall hm hms hnn t1 t2 t3 t4 hsr hle htk hmc HST HFEW HKX HMX HBX
      go_wp2_with fail
      refine HS.out.mono ?_
      rintro _ w3 ⟨Am, cm, mm, rfl, hmm, hmcap, hcmm, hlm, hb3⟩
      subst hmm
      have hE3 := HF.out.next _ _ hE2 hb3
      have hbw := hbw.trans (hb3.mono hbw.size)
      have hl := hl.next hb3
      have hs := hs.next hb3
      have hbx := hbx.next hb3
      have i0 : ¬ (nn : Int) < 0 := by omega
      have i1 : ¬ (n0 : Int) < (nn : Int) := by omega
      have HPN := Lib.hid (HF.out.all Am cm ms.length ms w3 hE3 rfl hlm hmcap hcmm (by have h1 := Fr.okTotal_le ms; have h2 := Fr.frames_total ms; have := HT3.out; omega) (fun b hb => by have h1 := Fr.total_mem hb; have h2 := Fr.frames_total ms; have := HT3.out; omega))
      rw [Fr.all_of_ok HOKM.out] at HPN
      clear hb3 HS hE2
      obtain ⟨ml, hml⟩ : ∃ x, x = ms.length := ⟨_, rfl⟩
      rw [← hml] at HPN ⊢
      have HML := Lib.hid hml
      clear hml
      go_wp2_with fail
      refine HPN.out.mono ?_
      rintro _ w4 ⟨hb4, Ay, cy, rfl, hry⟩
      have hby := row_cells hry
      have hE4 := HF.out.next _ _ hE3 hb4
      have hbw := hbw.trans (hb4.mono hbw.size)
      have hl := hl.next hb4
      have hs := hs.next hb4
      have hbx := hbx.next hb4
      have hlm := hlm.next hb4
      rw [HT3.out]
      have i2 : (nn : Int) ≤ (c0 : Int) := by omega
      have hstk := take_cells hs nn
      rw [HTK.out] at hstk
      have HSM := Lib.hid (same_to w4 Ay A0 (Fr.frames ms) nn nn cy c0 HT3.out HT3.out hby hstk)
      clear hry hb4 hE3 HPN hby
      go_wp2_with fail
      refine HSM.out.mono ?_
      rintro _ w' ⟨rfl, rfl⟩
      clear HSM
      go_upto_region 12 with fail
      have hb5 : Below w4.heap.size w4 (w4.alloc (.cells #[] 5)) := (Below.refl _ _).alloc (Nat.le_refl _) _
      have hown0 := row_none w4 w4.heap.size (Nat.le_refl _) w4.heap.size rfl
      have hbc5 : BC (w4.alloc (.cells #[] 5)) A0 (Fr.frames ms) := (hstk.next hb5).bc
      have tok1 : True := trivial
      have tok2 : True := trivial
      go_wp2_with (first
        | (at_builtin; have _t := tok1; refine wpList_append_bytes ?hw1 (.tmp 66) (.tmp 69) rfl w4.heap.size (.slice (some ⟨w4.heap.size, 0, none⟩) 0 0) A0 c0 nn [] (Fr.frames ms) rfl HT3.out rfl hown0 hbc5 (by have := HT3.out; simp; omega) (by simp) ?_; rotate_right; intro v6 w6 hown6 hgrow6; have hb6 : Below w4.heap.size w4 w6 := hb5.grown hgrow6 (by simp) (fun k hk => (World.ownsRow.lt hown0 k hk).1); have hbc6 : BC w6 Ax (Fr.frames l) := (hbx.next hb6).bc; clear tok1)
        | (at_builtin; have _t := tok2; have _h := hown6; refine wpList_append_bytes ?hw2 (.tmp 70) (.tmp 71) rfl w4.heap.size v6 Ax cx mx ([] ++ Fr.frames ms) (Fr.frames l) rfl HMXX.out rfl hown6 hbc6 (by have := HT3.out; have := HMXX.out; simp; omega) hb6.size ?_; rotate_right; intro v7 w7 hown7 hgrow7; have hb7 : Below w4.heap.size w4 w7 := hb6.grown hgrow7 hb6.size (fun k hk => (World.ownsRow.lt hown6 k hk).1); obtain ⟨A7, c7, hv7, _, _⟩ := hown7.form; subst hv7; clear tok2))
      have hz7 : ([] ++ Fr.frames ms ++ Fr.frames l : List UInt8) = Fr.frames (ms ++ l) := by rw [List.nil_append, Fr.frames_app]
      have hz7l : (Fr.frames (ms ++ l)).length = nn + mx := by rw [Fr.frames_app, List.length_append, HT3.out, HMXX.out]
      rw [hz7, hz7l] at hown7
      rw [show (Fr.frames ms).length + (Fr.frames l).length = nn + mx by rw [HT3.out, HMXX.out]]
      have hokA : (ms ++ l).all Fr.ok = true := by rw [List.all_append, HOKM.out, HOKL.out]; rfl
      have hscA := Fr.scan_all hokA
      have hE7 := HF.out.next _ _ hE4 hb7
      have hbw := hbw.trans (hb7.mono hbw.size)
      have hl := hl.next hb7
      have hs := hs.next hb7
      have hlm := hlm.next hb7
      have hb7c := row_cells hown7
      have h7cap := row_cap hown7
      rw [hz7l] at hscA
      obtain ⟨nz, hnz⟩ : ∃ x, x = nn + mx := ⟨_, rfl⟩
      rw [← hnz] at h7cap hscA hz7l ⊢
      have HSA := Lib.hid (HF.out.scan A7 c7 nz (Fr.frames (ms ++ l)) w7 hE7 hz7l hb7c h7cap.1 h7cap.2 (by omega))
      unfold ToldPost at HSA
      rw [hscA] at HSA
      clear hown7 hgrow7 hown6 hgrow6 hb6 hbc6 hb5 hown0 hbc5 hstk hz7 hz7l hokA hscA hb7c h7cap hnz hb7 hE4
      go_wp2_with fail
      refine HSA.out.mono ?_
      rintro _ w8 ⟨Ak, ck, mk, rfl, hmk, _, _, hlk, hb8⟩
      dsimp only at hmk hlk ⊢
      subst hmk
      have hE8 := HF.out.next _ _ hE7 hb8
      have hbw := hbw.trans (hb8.mono hbw.size)
      have hl := hl.next hb8
      have hs := hs.next hb8
      have hlm := hlm.next hb8
      clear hb8 HSA hE7
      obtain ⟨kl, hkl⟩ : ∃ x, x = (ms ++ l).length := ⟨_, rfl⟩
      rw [← hkl]
      have HKL := Lib.hid hkl.symm
      clear hkl
      have HRS : Hid (∀ (A : Option Addr) (c n : Nat), n = n0 - nn → (A = (match A0 with | some ad => some (ad.add nn) | none => none) ∨ n = 0) → n ≤ c → c ≤ 9223372036854775807 → Calls Tryd.prog 13 #[.slice A n c] w8 fun e w' => ∃ A c, e = .returned (.tuple #[.slice A 0 c, .int .i64 0]) ∧ Below w8.heap.size w8 w') := Lib.hid (fun A c n hn hA hnc hcmax => by
        have hdl : (s.drop nn).length = n := by rw [List.length_drop, HN0.out, hn]
        have hcells : BCells w8 w8.heap.size A (s.drop nn) := fun h0 => by
          rcases hA with hA | hA
          · obtain ⟨b, off, e, hlt, hc⟩ := hs (by rw [List.length_drop] at h0; omega)
            subst e
            refine ⟨b, off + nn, by rw [hA]; exact congrArg some (Addr.add_mid b off nn), hlt, fun k hk => ?_⟩
            rw [List.length_drop] at hk
            have := hc (nn + k) (by omega)
            rw [List.getElem_drop, Nat.add_assoc]
            exact this
          · omega
        refine (HF.out.scan A c n (s.drop nn) w8 hE8 hdl hcells hnc hcmax (by omega)).mono fun e w' ⟨A', c', m', he, hm', _, _, _, hb⟩ => ⟨A', c', ?_, hb⟩
        rw [HSR.out] at he hm'
        rw [he, hm']
        rfl)
      obtain ⟨i0', hi0, hz0, hz1, hz2⟩ := info_parts Tryd.infoBytes
      go_upto_region 14 with fail
      go_cut [17] (fun v wx => v = .int .i64 0 ∧ Below w8.heap.size w8 wx)
      case first =>
        cases A0 with
        | none =>
          go_wp2_with fail
          all_goals
            refine (HRS.out _ _ _ (by first | rfl | omega) (.inl rfl) (by omega) (by omega)).mono ?_
            rintro _ w9 ⟨A9, c9, rfl, hb9⟩
            go_wp2_with fail
            go_meet
            exact ⟨rfl, hb9⟩
        | some ad =>
          by_cases hcn : nn < c0
          · have q1 : ¬ c0 = nn := by omega
            have q2 : ¬ c0 ≤ nn := by omega
            go_wp2_with fail
            refine (HRS.out _ _ _ (by first | rfl | omega) (.inl rfl) (by omega) (by omega)).mono ?_
            rintro _ w9 ⟨A9, c9, rfl, hb9⟩
            go_wp2_with fail
            go_meet
            exact ⟨rfl, hb9⟩
          · obtain rfl : nn = c0 := by omega
            go_wp2_with fail
            all_goals
              refine (HRS.out _ _ _ (by first | rfl | omega) (.inr (by omega)) (by omega) (by omega)).mono ?_
              rintro _ w9 ⟨A9, c9, rfl, hb9⟩
              go_wp2_with fail
              go_meet
              exact ⟨rfl, hb9⟩
      case rest =>
        obtain ⟨hv17, hb9⟩ := hcut
        subst hv17
        have hl := hl.next hb9
        have hlm := hlm.next hb9
        have hlk := hlk.next hb9
        have hbw := hbw.trans (hb9.mono hbw.size)
        have e5 : ((nz : Int) == (nz : Int)) = true := by simp
        clear hb9 HRS hs hbx hE8
        have hbA : Below wc.heap.size wc (wc.alloc (.cells #[] 22)) := (Below.refl _ _).alloc (Nat.le_refl _) _
        obtain ⟨na, na1, na2, na3, na4⟩ := lc_news (hlm.keepB hbA (Nat.le_refl _))
        have hown0 := list_empty wc wc.heap.size (Nat.le_refl _)
        have NA1 := Lib.hid (na1.trans HML.out.symm)
        have NA2 := Lib.hid na2
        have NA3 := Lib.hid (fun (h : 0 < ml) => na3 (by rw [← HML.out]; exact h))
        have NA4 := Lib.hid na4
        have NA5 := Lib.hid na1
        have HHL := Lib.hid hl
        have hml : ml ≤ 700 := by have := HML.out; have := HMC.out; omega
        clear na1 na2 na3 na4 hlm
        have tok1 : True := trivial
        have tok2 : True := trivial
        go_wp2_with (first
          | (at_builtin; have _t := tok1; refine wpList_append_list ?hw3 (.tmp 98) (.tmp 99) rfl wc.heap.size i0' hi0 hz0 hz1 hz2 (.slice (some ⟨wc.heap.size, 0, none⟩) 0 0) 0 [] rfl hown0 Am ml cm na rfl NA1.out NA3.out NA4.out (by omega) (by simp) ?_; rotate_right; intro A11 c11 w11 hown1 hgrow1; rw [Nat.zero_add] at hown1 ⊢; have hbB : Below wc.heap.size (wc.alloc (.cells #[] 22)) w11 := (Below.refl _ _).grown hgrow1 (by simp) (fun k hk => (World.ownsRow.lt hown0 k hk).1); have hb11 := hbA.trans hbB; obtain ⟨nb, nb1, nb2, nb3, nb4⟩ := lc_news (HHL.out.keepB hb11 (Nat.le_refl _)); have hs11 := hb11.size; have NB1 := Lib.hid (nb1.trans HN1.out); have NB3 := Lib.hid (fun (h : 0 < n1) => nb3 (by rw [HN1.out]; exact h)); have NB4 := Lib.hid nb4; have NB2 := Lib.hid nb2; clear tok1 nb1 nb2 nb3 nb4)
          | (at_builtin; have _t := tok2; have _h := hown1; refine wpList_append_list ?hw4 (.tmp 100) (.tmp 101) rfl wc.heap.size i0' hi0 hz0 hz1 hz2 (.slice A11 ml c11) ml ([] ++ na) rfl hown1 A1 n1 c1 nb rfl NB1.out NB3.out NB4.out (by omega) hs11 ?_; rotate_right; intro A12 c12 w12 hown2 hgrow2; have hbC : Below wc.heap.size w11 w12 := (Below.refl _ _).grown hgrow2 hs11 (fun k hk => (World.ownsRow.lt hown1 k hk).1); clear tok2))
        have hb12 := hb11.trans hbC
        have hlk := hlk.next hb12
        have hbw := hbw.trans (hb12.mono hbw.size)
        have hlen12 : (ms ++ l).length = ml + n1 := by rw [List.length_append, HML.out, HN1.out]
        have hlc12 := lc_of_row hown2 hlen12 (by
          rw [List.nil_append]
          exact both_at NA5.out NA2.out (hbB.trans hbC) hb12.size NB2.out hbC hb12.size)
        have HLI := Lib.hid (lists_to w12 Ak A12 (ms ++ l) kl _ ck c12 HKL.out hlen12 hlk hlc12 (by have := HKL.out; omega))
        clear hlc12 hown2 hgrow2 hown1 hgrow1
        refine HLI.out.mono ?_
        rintro _ w13 ⟨rfl, hb13⟩
        have hbw := hbw.trans (hb13.mono hbw.size)
        go_wp2_with fail
        go_ret
        first
          | exact ⟨rfl, hbw⟩
          | exact ⟨ret_bool (by simp), hbw⟩
end Go.Proofs.YtocfppopnoegmaaDoor
