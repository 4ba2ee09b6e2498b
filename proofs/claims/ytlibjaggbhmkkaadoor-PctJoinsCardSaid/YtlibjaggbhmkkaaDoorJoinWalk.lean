/- What the statement's own function PctJoins does: it answers true for every two texts and every byte, where the table of digits reads as its text lays it. -/
import Derived.Test.YtlibjaggbhmkkaaDoorRefB
import Derived.Maps.AppendAt
namespace Go.Proofs.YtlibjaggbhmkkaaDoor
open Go.RowKit

theorem form_errs : ∀ (ps : List (List UInt8)) (acc : List Pct.PairL) (n : Nat), Pct.formGo acc ps = .error n → n = 5 ∨ n = 11
  | [], acc, n, h => by simp [Pct.formGo] at h
  | p :: ps, acc, n, h => by
    by_cases hp : p = []
    · subst hp
      rw [Pct.formGo_empty] at h
      exact form_errs ps acc n h
    · by_cases hl : acc.length = 32
      · rw [Pct.formGo_full acc p ps hp hl] at h
        injection h with h
        exact .inl h.symm
      · cases hq : Pct.pairOf p with
        | none =>
          rw [Pct.formGo_bad acc p ps hp hl hq] at h
          injection h with h
          exact .inr h.symm
        | some q =>
          rw [Pct.formGo_pair acc p ps q hp hl hq] at h
          exact form_errs ps _ n h

set_option maxHeartbeats 400000 in
theorem pctJoins_long (s t : ByteArray) (n : Int) (w : World) (hd : Digs w) (hs : 200 < s.size ∨ s.size ≤ 200 ∧ 200 < t.size) :
    Calls Tryd.prog 8 #[.string s, .string t, .int .u8 n] w (AwakePost w) := by
  rcases hs with h1 | ⟨h1, h2⟩
  all_goals
    go_enter Tryd.func8, Tryd.ntmps8
    go_wp2_with (go_at_call 9; refine (awake_any w hd).mono ?_; rintro e w1 ⟨rfl, hb1⟩)
    go_ret
    exact ⟨rfl, hb1⟩

theorem formS_ok (s : ByteArray) (x : List Pct.PairL) (w : World) (hd : Digs w) (hl : s.size ≤ 1073741824) (h : Pct.form s.data.toList = .ok x) :
    Calls Tryd.prog 19 #[.string s] w fun e w' => ∃ A cap, e = .returned (.tuple #[.slice A x.length cap, .int .i64 0]) ∧ PRow w.heap.size w' (.slice A x.length cap) x ∧ Below w.heap.size w w' :=
  (form_ok s.data.toList x w hd (by simpa using hl) h).mono fun e w' ⟨v, he, hr, hb⟩ => by
    obtain ⟨A, cap, rfl⟩ := hr.form
    exact ⟨A, cap, he, hr, hb⟩
theorem formS_error (s : ByteArray) (n : Nat) (w : World) (hd : Digs w) (hl : s.size ≤ 1073741824) (h : Pct.form s.data.toList = .error n) :
    Calls Tryd.prog 19 #[.string s] w fun e w' => ∃ m : Int, e = .returned (.tuple #[.slice none 0 0, .int .i64 m]) ∧ (m = 5 ∨ m = 11) ∧ Below w.heap.size w w' :=
  (form_error s.data.toList n w hd (by simpa using hl) h).mono fun e w' ⟨he, hb⟩ => ⟨(n : Int), he, by rcases form_errs _ _ _ h with h | h <;> subst h <;> simp, hb⟩

theorem form_five (s : ByteArray) (w : World) (hd : Digs w) (hl : s.size ≤ 1073741824) (h : Pct.form s.data.toList = .error 5) :
    Calls Tryd.prog 19 #[.string s] w fun e w' => e = .returned (.tuple #[.slice none 0 0, .int .i64 5]) ∧ Below w.heap.size w w' :=
  form_error s.data.toList 5 w hd (by simpa using hl) h

set_option maxHeartbeats 400000 in
theorem pctJoins_bad1 (s t : ByteArray) (n : Int) (k : Nat) (w : World) (hd : Digs w) (h1 : s.size ≤ 200) (h2 : t.size ≤ 200) (hf : Pct.form s.data.toList = .error k) :
    Calls Tryd.prog 8 #[.string s, .string t, .int .u8 n] w (AwakePost w) := by
  have h0 := hd.lt
  have HF := Lib.hid hf
  clear hf
  go_enter Tryd.func8, Tryd.ntmps8
  go_wp2_with fail
  refine (awake_any w hd).mono ?_
  rintro e w1 ⟨rfl, hb1⟩
  go_wp2_with fail
  refine (formS_error s k w1 (hd.below hb1 h0) (by omega) HF.out).mono ?_
  rintro e w2 ⟨m, rfl, hm, hb2⟩
  have hb2' : Below w.heap.size w w2 := hb1.trans (hb2.mono hb1.size)
  have hm' : (m != 0) = true := by rcases hm with h | h <;> subst h <;> rfl
  clear hb2 hm
  cases ht : Pct.form t.data.toList with
  | error j =>
    have HT := Lib.hid ht
    clear ht
    go_wp2_with fail
    refine (formS_error t j w2 (hd.below hb2' h0) (by omega) HT.out).mono ?_
    rintro e w3 ⟨m3, rfl, hm3, hb3⟩
    have hb3' : Below w.heap.size w w3 := hb2'.trans (hb3.mono hb2'.size)
    clear hb3 hm3
    go_wp2
    go_ret
    exact ⟨rfl, hb3'⟩
  | ok y =>
    have HT := Lib.hid ht
    clear ht
    go_wp2_with fail
    refine (formS_ok t y w2 (hd.below hb2' h0) (by omega) HT.out).mono ?_
    rintro e w3 ⟨A, cap, rfl, hr, hb3⟩
    have hb3' : Below w.heap.size w w3 := hb2'.trans (hb3.mono hb2'.size)
    clear hb3 hr
    go_wp2
    go_ret
    exact ⟨rfl, hb3'⟩

set_option maxHeartbeats 400000 in
theorem pctJoins_bad2 (s t : ByteArray) (n : Int) (x : List Pct.PairL) (k : Nat) (w : World) (hd : Digs w) (h1 : s.size ≤ 200) (h2 : t.size ≤ 200) (hs : Pct.form s.data.toList = .ok x) (hf : Pct.form t.data.toList = .error k) :
    Calls Tryd.prog 8 #[.string s, .string t, .int .u8 n] w (AwakePost w) := by
  have h0 := hd.lt
  have HS := Lib.hid hs
  have HF := Lib.hid hf
  clear hf hs
  go_enter Tryd.func8, Tryd.ntmps8
  go_wp2_with fail
  refine (awake_any w hd).mono ?_
  rintro e w1 ⟨rfl, hb1⟩
  go_wp2_with fail
  refine (formS_ok s x w1 (hd.below hb1 h0) (by omega) HS.out).mono ?_
  rintro e w2 ⟨A, cap, rfl, hr, hb2⟩
  have hb2' : Below w.heap.size w w2 := hb1.trans (hb2.mono hb1.size)
  clear hb2 hr
  go_wp2_with fail
  refine (formS_error t k w2 (hd.below hb2' h0) (by omega) HF.out).mono ?_
  rintro e w3 ⟨m, rfl, hm, hb3⟩
  have hb3' : Below w.heap.size w w3 := hb2'.trans (hb3.mono hb2'.size)
  have hm' : (m != 0) = true := by rcases hm with h | h <;> subst h <;> rfl
  clear hb3 hm
  go_wp2
  go_ret
  exact ⟨rfl, hb3'⟩

theorem cells2_len (m : List Pct.PairL) : (cells2 m).length = m.length * 2 := by
  induction m with
  | nil => rfl
  | cons q r ih =>
    have e : cells2 (q :: r) = .string (S q.1) :: .string (S q.2) :: cells2 r := rfl
    rw [e, List.length_cons, List.length_cons, ih, List.length_cons]
    omega
theorem cells2_append (a b : List Pct.PairL) : cells2 (a ++ b) = cells2 a ++ cells2 b := by simp [cells2]
theorem cells2_one (m : List Pct.PairL) : ∀ u ∈ cells2 m, u.oneCell' = true := by
  intro u hu
  unfold cells2 at hu
  rw [List.mem_flatMap] at hu
  obtain ⟨q, _, h⟩ := hu
  simp at h
  rcases h with rfl | rfl <;> rfl

def gapL (k : Nat) : List UInt8 := List.replicate (k + 1) 38
theorem gap_cuts : ∀ k : Nat, k < 10 → ([38, 38, 38, 38, 38, 38, 38, 38, 38, 38] : List UInt8).take (k + 1) = gapL k := by decide +kernel
theorem gap_cut (w : World) (k : Nat) (hk : k < 10) : (Instr.slice 9 (.string ⟨#[38, 38, 38, 38, 38, 38, 38, 38, 38, 38]⟩) none (some (.int .i64 (1 + (k : Int)))) none).run Tryd.prog w = .ok (.string (S (gapL k))) w := by
  have hsz : (⟨#[38, 38, 38, 38, 38, 38, 38, 38, 38, 38]⟩ : ByteArray).size = 10 := rfl
  rw [run_slice_string_to_if w 9 _ .i64 (1 + (k : Int)) Tryd.underlying9, if_pos ⟨by omega, by rw [hsz]; omega⟩]
  have h1 : (1 + (k : Int)).toNat = k + 1 := by omega
  rw [h1]
  have h2 : ((⟨#[38, 38, 38, 38, 38, 38, 38, 38, 38, 38]⟩ : ByteArray).extract 0 (k + 1)).data.toList = gapL k := by
    rw [ByteArray.data_extract, Array.toList_extract, List.extract_eq_take_drop, List.drop_zero, Nat.sub_zero]
    exact gap_cuts k hk
  rw [← S_eq ((⟨#[38, 38, 38, 38, 38, 38, 38, 38, 38, 38]⟩ : ByteArray).extract 0 (k + 1)), h2]

/-- 'append(dst, src...)' of pairs: dst a row of the call's own, src whatever reads. -/
theorem run_append_pairs (w : World) (ty : TypeId) (base B : Nat) (v v2 : Value) (l m : List Pct.PairL) (hrow : PRow base w v l) (hr : PReads w B v2 m) (hl : l.length + m.length ≤ 1048576) (hbase : base ≤ w.heap.size) :
    ∃ v' w', (Builtin.append_ #[30, 30] ty #[v, v2]).run Tryd.prog w = .ok v' w' ∧ PRow base w' v' (l ++ m) ∧ w.grownBy w' v.ownBlock := by
  obtain ⟨i0, hi0, hz0, hz1, hz2⟩ := info_parts Tryd.infoPair
  obtain ⟨A, c, rfl, hc⟩ := hr
  have hgo : ∀ ad : Addr, A = some ad → (∀ j u, (cells2 m)[j]? = some u → w.cell? (ad.add j) = some u) → ∃ v' w', (Builtin.append_ #[30, 30] ty #[v, .slice A m.length c]).run Tryd.prog w = .ok v' w' ∧ PRow base w' v' (l ++ m) ∧ w.grownBy w' v.ownBlock := by
    rintro ad rfl hcells
    obtain ⟨v', w', hrun, h2, h3, _, _⟩ := run_append_own_at (P := Tryd.prog) w base 30 ty 43 i0 _ 2 32 Tryd.underlying30 hi0 hz0 hz1 hz2 rfl (by omega) v l.length (cells2 l) hrow ad m.length c (cells2 m) (cells2_len m) hcells (cells2_one m) (by unfold maxLen; omega) (by omega) hbase
    refine ⟨v', w', hrun, ?_, h3⟩
    unfold PRow
    rw [List.length_append, cells2_append]
    exact h2
  rcases Nat.eq_zero_or_pos m.length with h0 | h0
  · have hm : m = [] := List.length_eq_zero_iff.1 h0
    subst hm
    rcases A with _ | ad
    · refine ⟨v, w, ?_, by rw [List.append_nil]; exact hrow, World.grownBy.refl w _⟩
      rcases hrow.2 with ⟨rfl, hn⟩ | ⟨g, cap, cur, rfl, _, _, hnc, _⟩
      · simp [Builtin.append_, run_underlying Tryd.underlying30, sizeOf, typeInfo, hi0, Builtin.lenOf, Builtin.firstCells]
      · simp [Builtin.append_, run_underlying Tryd.underlying30, sizeOf, typeInfo, hi0, Builtin.lenOf, Builtin.firstCells, hnc, storeCells]
    · exact hgo ad rfl (fun j u hu => by simp [cells2] at hu)
  · obtain ⟨b, off, rfl, _, hcell⟩ := hc h0
    refine hgo _ rfl (fun j u hu => ?_)
    rw [Addr.add_mid]
    have hj : j < (cells2 m).length := (List.getElem?_eq_some_iff.1 hu).1
    rw [cells2_len] at hj
    have hk : j / 2 < m.length := by omega
    have hcc := hcell (j / 2) hk
    have h2 := cells2_at m (j / 2) hk
    rcases Nat.mod_two_eq_zero_or_one j with he | he
    · have e : j = j / 2 * 2 := by omega
      rw [e] at hu ⊢
      rw [h2.1] at hu
      rw [← hu]
      exact hcc.1
    · have e : j = j / 2 * 2 + 1 := by omega
      rw [e] at hu ⊢
      rw [h2.2] at hu
      rw [← hu, ← Nat.add_assoc]
      exact hcc.2

theorem wpList_append_pairs {w : World} {ops : Array Oper} {rest : List Oper} {o : Oper} {a : Act} {Q : Exit → Act → World → Prop} (hw : Region.wanted o (yielded ops a.tmps) = true) (s x : Operand)
    (ho : o.op = .call { callee := .builtin .append, args := #[s, x], argTypes := #[30, 30] })
    (base B : Nat) (v v2 : Value) (l m : List Pct.PairL) (hs : a.eval s = v) (hx : a.eval x = v2) (hrow : PRow base w v l) (hr : PReads w B v2 m) (hl : l.length + m.length ≤ 1048576) (hbase : base ≤ w.heap.size)
    (h : ∀ v' w', PRow base w' v' (l ++ m) → w.grownBy w' v.ownBlock → wpList Tryd.prog ops Q rest (a.put o.dst v') w') : wpList Tryd.prog ops Q (o :: rest) a w :=
  BigFrame.wpList_want hw fun K hK => by
    obtain ⟨v', w', hrun, h2, h3⟩ := run_append_pairs w o.type base B v v2 l m hrow hr hl hbase
    unfold Oper.wp execOp
    simp only [ho, resolve, invoke, builtin, Sem.run_bind, Sem.run_pure, Result.andThen_ok, List.map_toArray, List.map_cons, List.map_nil, hs, hx, hrun]
    exact hK _ _ (h v' w' h2 h3)

theorem pairs_true (x y z : List Pct.PairL) (h : z = x ++ y) : decide (z = [] ++ x ++ y) = true := by simp [h]

set_option maxHeartbeats 800000 in
theorem pctJoins_ok (s t : ByteArray) (n : Int) (x y : List Pct.PairL) (w : World) (hd : Digs w) (h1 : s.size ≤ 200) (h2 : t.size ≤ 200) (hn0 : 0 ≤ n) (hn1 : n ≤ 255)
    (hs : Pct.form s.data.toList = .ok x) (ht : Pct.form t.data.toList = .ok y) :
    Calls Tryd.prog 8 #[.string s, .string t, .int .u8 n] w (AwakePost w) := by
  have h0 := hd.lt
  obtain ⟨k, hk, hk10⟩ : ∃ k : Nat, n % 10 = (k : Int) ∧ k < 10 := ⟨(n % 10).toNat, by omega, by omega⟩
  have g1 := fun w' : World => gap_cut w' k hk10
  obtain ⟨G, hG⟩ : ∃ G, G = S (gapL k) := ⟨_, rfl⟩
  rw [← hG] at g1
  obtain ⟨U, hU⟩ : ∃ U, U = s ++ G := ⟨_, rfl⟩
  obtain ⟨J, hJ⟩ : ∃ J, J = U ++ t := ⟨_, rfl⟩
  have hgl : G.size ≤ 10 := by rw [hG]; show (gapL k).length ≤ 10; unfold gapL; rw [List.length_replicate]; omega
  have hUs : U.size ≤ 210 := by rw [hU, ByteArray.size_append]; omega
  have hJs : J.size ≤ 410 := by rw [hJ, ByteArray.size_append]; omega
  have a1 : ∀ w' : World, (Op.stringOp .add s G).run Tryd.prog w' = .ok (.string U) w' := fun w' => by rw [run_string_add_sum w' _ _ (by omega), hU]
  have a2 : ∀ w' : World, (Op.stringOp .add U t).run Tryd.prog w' = .ok (.string J) w' := fun w' => by rw [run_string_add_sum w' _ _ (by omega), hJ]
  have hJl : J.data.toList = s.data.toList ++ (List.replicate (k + 1) 38 ++ t.data.toList) := by
    rw [hJ, hU, hG]
    simp [ByteArray.data_append, S, gapL]
  have HJ := Lib.hid (show Pct.form J.data.toList = (if 32 < x.length + y.length then .error 5 else .ok (x ++ y)) by rw [hJl]; exact Pct.form_join k hs ht)
  have hx32 : x.length ≤ 32 := Pct.formGo_len _ [] x (by simp) hs
  have hy32 : y.length ≤ 32 := Pct.formGo_len _ [] y (by simp) ht
  have HS := Lib.hid hs
  have HT := Lib.hid ht
  clear ht hs hG hU hJ hJl hgl
  go_enter Tryd.func8, Tryd.ntmps8
  go_wp2_with fail
  refine (awake_any w hd).mono ?_
  rintro e w1 ⟨rfl, hb1⟩
  go_wp2_with fail
  refine (formS_ok s x w1 (hd.below hb1 h0) (by omega) HS.out).mono ?_
  rintro e w2 ⟨A, cap, rfl, hr, hb2⟩
  have hb2' : Below w.heap.size w w2 := hb1.trans (hb2.mono hb1.size)
  clear hb2 hb1
  go_wp2_with fail
  refine (formS_ok t y w2 (hd.below hb2' h0) (by omega) HT.out).mono ?_
  rintro e w3 ⟨A3, cap3, rfl, hr3, hb3⟩
  have hb3' : Below w.heap.size w w3 := hb2'.trans (hb3.mono hb2'.size)
  have px : PReads w3 w3.heap.size (.slice A x.length cap) x := (hr.reads.below hb3).more hb3.size
  have py : PReads w3 w3.heap.size (.slice A3 y.length cap3) y := hr3.reads
  clear hb3 hr hr3 hb2'
  by_cases hmany : 32 < x.length + y.length
  · have hmI : (32 : Int) < (x.length : Int) + (y.length : Int) := by omega
    have HJ' := Lib.hid (show Pct.form J.data.toList = .error 5 by rw [HJ.out, if_pos hmany])
    go_wp2_with fail
    refine (form_five J w3 (hd.below hb3' h0) (by omega) HJ'.out).mono ?_
    rintro e w4 ⟨rfl, hb4⟩
    have hb4' : Below w.heap.size w w4 := hb3'.trans (hb4.mono hb3'.size)
    go_wp2
    go_ret
    exact ⟨rfl, hb4'⟩
  · obtain ⟨z, hz⟩ : ∃ z, z = x ++ y := ⟨_, rfl⟩
    have HJ' := Lib.hid (show Pct.form J.data.toList = .ok z by rw [HJ.out, if_neg hmany, hz])
    have hz32 : z.length ≤ 32 := by rw [hz, List.length_append]; omega
    have HZ := Lib.hid hz
    clear hz
    go_wp2_with fail
    refine (formS_ok J z w3 (hd.below hb3' h0) (by omega) HJ'.out).mono ?_
    rintro e w4 ⟨A4, cap4, rfl, hr4, hb4⟩
    have hb4' : Below w.heap.size w w4 := hb3'.trans (hb4.mono hb3'.size)
    have px4 : PReads w4 w4.heap.size (.slice A x.length cap) x := (px.below hb4).more hb4.size
    have py4 : PReads w4 w4.heap.size (.slice A3 y.length cap3) y := (py.below hb4).more hb4.size
    have pj4 := hr4.reads
    clear hb4 hr4 px py hb3'
    have hmI : ¬ ((32 : Int) < (x.length : Int) + (y.length : Int)) := by omega
    have hown0 : PRow w4.heap.size (w4.alloc (.cells #[] 43)) (.slice (some ⟨w4.heap.size, 0, none⟩) 0 0) [] :=
      ⟨rfl, .inr ⟨w4.heap.size, 0, #[], rfl, Nat.le_refl _, heap_alloc_new w4 _, Nat.le_refl _, Nat.zero_le _, rfl, rfl⟩⟩
    have hbA : Below w4.heap.size w4 (w4.alloc (.cells #[] 43)) := (Below.refl _ _).alloc (Nat.le_refl _) _
    have tok1 : True := trivial
    have tok2 : True := trivial
    go_wp2_with (first
      | (at_builtin; have _t := tok1; refine wpList_append_pairs ?hw1 (.tmp 74) (.tmp 75) rfl w4.heap.size w4.heap.size (.slice (some ⟨w4.heap.size, 0, none⟩) 0 0) (.slice A x.length cap) [] x rfl rfl hown0 (px4.below hbA) (by simp; omega) (by simp) ?_; rotate_right; intro v5 w5 hown5 hgrow5; have hb5 : Below w4.heap.size w4 w5 := hbA.grown hgrow5 (by simp) (fun k hk => (World.ownsRow.lt hown0 k hk).1); clear tok1 hgrow5)
      | (at_builtin; have _t := tok2; have _h := hown5; refine wpList_append_pairs ?hw2 (.tmp 76) (.tmp 77) rfl w4.heap.size w4.heap.size v5 (.slice A3 y.length cap3) ([] ++ x) y rfl rfl hown5 (py4.below hb5) (by simp; omega) hb5.size ?_; rotate_right; intro v6 w6 hown6 hgrow6; have hb6 : Below w4.heap.size w4 w6 := hb5.grown hgrow6 hb5.size (fun k hk => (World.ownsRow.lt hown5 k hk).1); clear tok2 hgrow6)
      | (go_at_call 23; refine (pairs_any _ v6 z (([] ++ x) ++ y) w6 ((pj4.below hb6).more hb6.size) hown6.reads (by omega)).mono ?_; rintro e w7 ⟨rfl, n7, rfl⟩; rw [pairs_true x y z HZ.out]))
    go_ret
    exact ⟨rfl, below_drewN (hb4'.trans (hb6.mono hb4'.size)) n7⟩

theorem pctJoins_any (s t : ByteArray) (n : Int) (hn : 0 ≤ n ∧ n ≤ 255) (w : World) (hd : Digs w) : Calls Tryd.prog 8 #[.string s, .string t, .int .u8 n] w (AwakePost w) := by
  by_cases h1 : s.size ≤ 200
  · by_cases h2 : t.size ≤ 200
    · cases hs : Pct.form s.data.toList with
      | error k => exact pctJoins_bad1 s t n k w hd h1 h2 hs
      | ok x =>
        cases ht : Pct.form t.data.toList with
        | error k => exact pctJoins_bad2 s t n x k w hd h1 h2 hs ht
        | ok y => exact pctJoins_ok s t n x y w hd h1 h2 hn.1 hn.2 hs ht
    · exact pctJoins_long s t n w hd (.inr ⟨h1, by omega⟩)
  · exact pctJoins_long s t n w hd (.inl (by omega))
end Go.Proofs.YtlibjaggbhmkkaaDoor
