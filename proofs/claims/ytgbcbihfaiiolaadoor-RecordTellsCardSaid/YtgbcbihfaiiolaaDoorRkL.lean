/- What the document's Decode answers, for any name of at most 2^30 bytes and any bytes of at most 2^29. -/
import Derived.Test.YtgbcbihfaiiolaaDoorRkJ
import Derived.Test.YtgbcbihfaiiolaaDoorRkK
import Derived.Deep.SlicePairs
namespace Go.Proofs.YtgbcbihfaiiolaaDoor
set_option maxRecDepth 8000
open Go.RowKit

theorem idx_at (s : List UInt8) (i : Nat) (h : i < s.length) (w : World) : (Instr.index 9 (.string (S s)) (.int .i64 (i : Int))).run Tryd.prog w = .ok (.int .u8 ((s.getD i 0).toNat : Int)) w := by
  have e : s.getD i 0 = s[i] := by rw [List.getD_eq_getElem?_getD, List.getElem?_eq_getElem h]; rfl
  rw [e]
  exact idx_S s i h w
def sliceLen : Value → Nat
  | .slice _ k _ => k
  | _ => 0
/-- What lies where the document's Decode is at work: what is told, the record. -/
structure RT (w wr : World) (a : Nat) (r : Rk.R) : Prop where
  rc : wr.heap[a + 1]? = some (.cells (recCs r) 23 (0, 0))
  out : wr.heap[a]? = some (.cells (recCs noRec) 23 (0, 0))
  below : Below a w wr
  size : a ≤ wr.heap.size
theorem RT.next {w wr w' : World} {a : Nat} {r : Rk.R} (h : RT w wr a r) (hb : Below wr.heap.size wr w') : RT w w' a r :=
  ⟨(hb.block _ (lt_of_blk h.rc)).trans h.rc, (hb.block _ (lt_of_blk h.out)).trans h.out, h.below.trans (hb.mono h.size), Nat.le_trans h.size hb.size⟩
theorem RT.store {w wr : World} {a : Nat} {r : Rk.R} (h : RT w wr a r) (i : Nat) (v : Value) (r' : Rk.R) (e : (recCs r).setIfInBounds i v = recCs r') : RT w (wr.setCell ⟨a + 1, i, none⟩ v) a r' := by
  have hg := setCell_grown wr (a + 1) i v
  exact ⟨recCell_set h.rc i v r' e, (hg.block _ (lt_of_blk h.out) (by simp)).trans h.out, h.below.grown hg h.size (fun q hq => by cases hq; omega), Nat.le_trans h.size hg.size⟩
theorem RT.drew {w wr : World} {a : Nat} {r : Rk.R} (h : RT w wr a r) : RT w wr.drew a r := ⟨h.rc, h.out, h.below.drew, h.size⟩
theorem RT.at {w wr : World} {a : Nat} {r : Rk.R} (h : RT w wr a r) : RecAt wr (a + 1) r := recAt_blk h.rc
theorem RT.frozen {w wr : World} {a : Nat} {r : Rk.R} (h : RT w wr a r) (i : Nat) : wr.frozen? ⟨a + 1, i, none⟩ = false := by
  have := h.rc
  simp [World.frozen?, this]
theorem S_at (s : List UInt8) (i : Nat) (h : i < (S s).size) : (S s)[i]'h = s.getD i 0 := by
  have h' : i < s.length := h
  rw [List.getD_eq_getElem?_getD, List.getElem?_eq_getElem h']
  rfl
set_option maxHeartbeats 3200000 in
theorem refDecode13_any (n s : List UInt8) (hn : n.length ≤ 1073741824) (hl : s.length ≤ 536870912) (w : World) :
    Calls Tryd.prog 13 #[.string (S n), .string (S s)] w fun e w' => e = .returned (decV n s) ∧ Below w.heap.size w w' := by
  have HD : Hid (decV n s = match Rk.refDec n s with
    | some r => .tuple #[recV r, .int .i64 0]
    | none => .tuple #[recV noRec, .int .i64 8]) := Lib.hid (by rw [Rk.ref_dec]; rfl)
  have hsz : ((S s).size : Int) = (s.length : Int) := rfl
  by_cases hh : Rk.hd s = true
  case neg =>
    have HN : Hid (decV n s = .tuple #[recV noRec, .int .i64 8]) := Lib.hid (by
      rw [HD.out]
      unfold Rk.refDec
      rw [if_neg hh])
    have hW := heap_alloc_new w (.cells (recCs noRec) 23)
    have hWb : Below w.heap.size w (w.alloc (.cells (recCs noRec) 23)) := (Below.refl _ _).alloc (Nat.le_refl _) _
    have hlay := Lib.hid (recAt_blk hW)
    have hbl := Lib.hid hWb
    clear hW hWb
    by_cases h23 : 23 ≤ s.length
    case neg =>
      have hc : (s.length : Int) < 23 := by omega
      clear hh h23
      go_enter Tryd.func13, Tryd.ntmps13
      go_wp2_with fail
      change bodyPost Tryd.prog _ _ _ _ (w.alloc (.cells (recCs noRec) 23))
      obtain ⟨z0, z1, z2, z3, z4, z5, z6, z7, z8, z9⟩ := hlay.out
      refine bodyPost_ret (v := .tuple #[recV noRec, .int .i64 8]) ?_ rfl ⟨by rw [HN.out], hbl.out⟩
      generalize w.alloc (.cells (recCs noRec) 23) = wz at z0 z1 z2 z3 z4 z5 z6 z7 z8 z9
      simp [results, Tryd.results13, go_sem, z0, z1, z2, z3, z4, z5, z6, z7, z8, z9]
      rfl
    case pos =>
      have z : ∀ i, i < 23 → i < (S s).size := fun i hi => by show i < s.length; omega
      have hc : (1 : Int) < (((S s)[2]'(z 2 (by omega))).toNat : Int) ∨ (¬ (1 : Int) < (((S s)[2]'(z 2 (by omega))).toNat : Int) ∧ (0 < ((S s)[3]'(z 3 (by omega))).toNat ∨ (((S s)[3]'(z 3 (by omega))).toNat = 0 ∧ (0 < ((S s)[4]'(z 4 (by omega))).toNat ∨ (((S s)[4]'(z 4 (by omega))).toNat = 0 ∧ (0 < ((S s)[11]'(z 11 (by omega))).toNat ∨ (((S s)[11]'(z 11 (by omega))).toNat = 0 ∧ 0 < ((S s)[12]'(z 12 (by omega))).toNat))))))) := by
        have key : ¬ ((((S s)[2]'(z 2 (by omega))).toNat ≤ 1) ∧ ((S s)[3]'(z 3 (by omega))).toNat = 0 ∧ ((S s)[4]'(z 4 (by omega))).toNat = 0 ∧ ((S s)[11]'(z 11 (by omega))).toNat = 0 ∧ ((S s)[12]'(z 12 (by omega))).toNat = 0) := fun ⟨x2, x3, x4, x11, x12⟩ => by
          rw [S_at] at x2 x3 x4 x11 x12
          exact hh (decide_eq_true ⟨h23, x2, UInt8.toNat_inj.1 x3, UInt8.toNat_inj.1 x4, UInt8.toNat_inj.1 x11, UInt8.toNat_inj.1 x12⟩)
        omega
      have j1 : ¬ (s.length : Int) < 23 := by omega
      have k2 : (2 : Int) < (s.length : Int) := by omega
      have k3 : (3 : Int) < (s.length : Int) := by omega
      have k4 : (4 : Int) < (s.length : Int) := by omega
      have k11 : (11 : Int) < (s.length : Int) := by omega
      have k12 : (12 : Int) < (s.length : Int) := by omega
      clear hh
      rcases hc with hc | ⟨q2, hc | ⟨q3, hc | ⟨q4, hc | ⟨q11, hc⟩⟩⟩⟩ <;>
        (go_enter Tryd.func13, Tryd.ntmps13
         go_wp2_with fail
         change bodyPost Tryd.prog _ _ _ _ (w.alloc (.cells (recCs noRec) 23))
         obtain ⟨z0, z1, z2, z3, z4, z5, z6, z7, z8, z9⟩ := hlay.out
         refine bodyPost_ret (v := .tuple #[recV noRec, .int .i64 8]) ?_ rfl ⟨by rw [HN.out], hbl.out⟩
         generalize w.alloc (.cells (recCs noRec) 23) = wz at z0 z1 z2 z3 z4 z5 z6 z7 z8 z9
         simp [results, Tryd.results13, go_sem, z0, z1, z2, z3, z4, z5, z6, z7, z8, z9]
         rfl)
  case pos =>
    obtain ⟨h1, h2, h3, h4, h5, h6⟩ := of_decide_eq_true hh
    have z : ∀ i, i < 23 → i < (S s).size := fun i hi => by show i < s.length; omega
    have q2 : ¬ (1 : Int) < (((S s)[2]'(z 2 (by omega))).toNat : Int) := by rw [S_at]; omega
    have q3 : ((S s)[3]'(z 3 (by omega))).toNat = 0 := by rw [S_at, h3]; rfl
    have q4 : ((S s)[4]'(z 4 (by omega))).toNat = 0 := by rw [S_at, h4]; rfl
    have q11 : ((S s)[11]'(z 11 (by omega))).toNat = 0 := by rw [S_at, h5]; rfl
    have q12 : ((S s)[12]'(z 12 (by omega))).toNat = 0 := by rw [S_at, h6]; rfl
    have n0 : 0 < s.length := by omega
    have j1 : ¬ (s.length : Int) < 23 := by omega
    have k1 : (1 : Int) < (s.length : Int) := by omega
    have k2 : (2 : Int) < (s.length : Int) := by omega
    have k3 : (3 : Int) < (s.length : Int) := by omega
    have k4 : (4 : Int) < (s.length : Int) := by omega
    have k11 : (11 : Int) < (s.length : Int) := by omega
    have k12 : (12 : Int) < (s.length : Int) := by omega
    have v0 : IntKind.i64.wrap (((S s)[0]'(z 0 (by omega))).toNat : Int) = (((S s)[0]'(z 0 (by omega))).toNat : Int) := IntWalk.i64_in _ (by have := ((S s)[0]'(z 0 (by omega))).toNat_lt; omega)
    have v1 : IntKind.i64.wrap (((S s)[1]'(z 1 (by omega))).toNat : Int) = (((S s)[1]'(z 1 (by omega))).toNat : Int) := IntWalk.i64_in _ (by have := ((S s)[1]'(z 1 (by omega))).toNat_lt; omega)
    have HB : Hid (∀ j, Rk.num ((s.drop 3).take j) < 281474976710656 ∨ 8 < j) := Lib.hid fun j => by
      rcases Nat.lt_or_ge 8 j with h | h
      · exact .inr h
      · exact .inl (Rk.num_lead (Rk.take_getD j (by rw [Rk.drop_getD]; exact h3)) (Rk.take_getD j (by rw [Rk.drop_getD]; exact h4)) (by rw [List.length_take]; omega))
    have HB2 : Hid (∀ j, Rk.num ((s.drop 11).take j) < 281474976710656 ∨ 8 < j) := Lib.hid fun j => by
      rcases Nat.lt_or_ge 8 j with h | h
      · exact .inr h
      · exact .inl (Rk.num_lead (Rk.take_getD j (by rw [Rk.drop_getD]; exact h5)) (Rk.take_getD j (by rw [Rk.drop_getD]; exact h6)) (by rw [List.length_take]; omega))
    clear h2 h3 h4 h5 h6
    go_enter Tryd.func13, Tryd.ntmps13
    go_wp2_with fail
    -- REGION 3
    refine wp_region_noPanic ?_
    refine wp_region_held_drew (S := fun _ => True) (by kernel_rfl) trivial (fun hHe0 => ?_)
    refine wpAnyH_take (i := 0) (oi := { dst := some 40, op := Op.move (Operand.tmp 0), type := 9, pos := "ref.go:64", after := #[], guard := none }) (v := ?v3_0) rfl (by kernel_rfl) (by kernel_rfl) (by kernel_rfl) (fun _ _ _ h => h) (Or.inl ⟨by rfl, ?hy3_0⟩) hHe0 ?rest3_0
    case hy3_0 => (intro wy hSw; go_simp; try (with_reducible rfl))
    try simp only [Act.put, List.setIfInBounds_toArray, List.set_cons_zero, List.set_cons_succ]
    refine wpAnyH_take (i := 1) (oi := { dst := some 41, op := Op.move (Operand.tmp 1), type := 9, pos := "ref.go:64", after := #[], guard := none }) (v := ?v3_1) rfl (by kernel_rfl) (by kernel_rfl) (by kernel_rfl) (fun _ _ _ h => h) (Or.inl ⟨by rfl, ?hy3_1⟩) hHe0 ?rest3_1
    case hy3_1 => (intro wy hSw; go_simp; try (with_reducible rfl))
    try simp only [Act.put, List.setIfInBounds_toArray, List.set_cons_zero, List.set_cons_succ]
    refine wpAnyH_take (i := 2) (oi := { dst := some 42, op := Op.index 9 (Operand.tmp 41) (Operand.const (Value.int IntKind.i64 0)), type := 5, pos := "ref.go:64", after := #[{ on := 1, ground := Ground.data }], guard := none }) (v := ?v3_2) rfl (by kernel_rfl) (by kernel_rfl) (by kernel_rfl) (fun _ _ _ h => h) (Or.inl ⟨by rfl, ?hy3_2⟩) hHe0 ?rest3_2
    case hy3_2 => (intro wy hSw; go_simp; try (with_reducible rfl))
    try simp only [Act.put, List.setIfInBounds_toArray, List.set_cons_zero, List.set_cons_succ]
    refine wpAnyH_take (i := 3) (oi := { dst := some 43, op := Op.convert 5 3 (Operand.tmp 42), type := 3, pos := "ref.go:64", after := #[{ on := 2, ground := Ground.data }], guard := none }) (v := ?v3_3) rfl (by kernel_rfl) (by kernel_rfl) (by kernel_rfl) (fun _ _ _ h => h) (Or.inl ⟨by rfl, ?hy3_3⟩) hHe0 ?rest3_3
    case hy3_3 => (intro wy hSw; go_simp; try (with_reducible rfl))
    try simp only [Act.put, List.setIfInBounds_toArray, List.set_cons_zero, List.set_cons_succ]
    refine wpAnyH_take (i := 4) (oi := { dst := some 44, op := Op.move (Operand.tmp 1), type := 9, pos := "ref.go:64", after := #[], guard := none }) (v := ?v3_4) rfl (by kernel_rfl) (by kernel_rfl) (by kernel_rfl) (fun _ _ _ h => h) (Or.inl ⟨by rfl, ?hy3_4⟩) hHe0 ?rest3_4
    case hy3_4 => (intro wy hSw; go_simp; try (with_reducible rfl))
    try simp only [Act.put, List.setIfInBounds_toArray, List.set_cons_zero, List.set_cons_succ]
    refine wpAnyH_take (i := 5) (oi := { dst := some 45, op := Op.index 9 (Operand.tmp 44) (Operand.const (Value.int IntKind.i64 1)), type := 5, pos := "ref.go:64", after := #[{ on := 4, ground := Ground.data }], guard := none }) (v := ?v3_5) rfl (by kernel_rfl) (by kernel_rfl) (by kernel_rfl) (fun _ _ _ h => h) (Or.inl ⟨by rfl, ?hy3_5⟩) hHe0 ?rest3_5
    case hy3_5 => (intro wy hSw; go_simp; try (with_reducible rfl))
    try simp only [Act.put, List.setIfInBounds_toArray, List.set_cons_zero, List.set_cons_succ]
    refine wpAnyH_take (i := 6) (oi := { dst := some 46, op := Op.convert 5 3 (Operand.tmp 45), type := 3, pos := "ref.go:64", after := #[{ on := 5, ground := Ground.data }], guard := none }) (v := ?v3_6) rfl (by kernel_rfl) (by kernel_rfl) (by kernel_rfl) (fun _ _ _ h => h) (Or.inl ⟨by rfl, ?hy3_6⟩) hHe0 ?rest3_6
    case hy3_6 => (intro wy hSw; go_simp; try (with_reducible rfl))
    try simp only [Act.put, List.setIfInBounds_toArray, List.set_cons_zero, List.set_cons_succ]
    refine wpAnyH_take (i := 7) (oi := { dst := some 47, op := Op.move (Operand.tmp 1), type := 9, pos := "ref.go:64", after := #[], guard := none }) (v := ?v3_7) rfl (by kernel_rfl) (by kernel_rfl) (by kernel_rfl) (fun _ _ _ h => h) (Or.inl ⟨by rfl, ?hy3_7⟩) hHe0 ?rest3_7
    case hy3_7 => (intro wy hSw; go_simp; try (with_reducible rfl))
    try simp only [Act.put, List.setIfInBounds_toArray, List.set_cons_zero, List.set_cons_succ]
    refine wpAnyH_take (i := 8) (oi := { dst := some 48, op := Op.index 9 (Operand.tmp 47) (Operand.const (Value.int IntKind.i64 2)), type := 5, pos := "ref.go:64", after := #[{ on := 7, ground := Ground.data }], guard := none }) (v := ?v3_8) rfl (by kernel_rfl) (by kernel_rfl) (by kernel_rfl) (fun _ _ _ h => h) (Or.inl ⟨by rfl, ?hy3_8⟩) hHe0 ?rest3_8
    case hy3_8 => (intro wy hSw; go_simp; try (with_reducible rfl))
    try simp only [Act.put, List.setIfInBounds_toArray, List.set_cons_zero, List.set_cons_succ]
    refine wpAnyH_take (i := 9) (oi := { dst := some 49, op := Op.binOp BinOp.eql 5 (Operand.tmp 48) (Operand.const (Value.int IntKind.u8 1)) 5, type := 4, pos := "ref.go:64", after := #[{ on := 8, ground := Ground.data }], guard := none }) (v := ?v3_9) rfl (by kernel_rfl) (by kernel_rfl) (by kernel_rfl) (fun _ _ _ h => h) (Or.inl ⟨by rfl, ?hy3_9⟩) hHe0 ?rest3_9
    case hy3_9 => (intro wy hSw; go_simp; try (with_reducible rfl))
    try simp only [Act.put, List.setIfInBounds_toArray, List.set_cons_zero, List.set_cons_succ]
    refine wpAnyH_take (i := 10) (oi := { dst := some 50, op := Op.build 23 #[(1, Operand.tmp 40), (0, Operand.tmp 43), (8, Operand.tmp 46), (9, Operand.tmp 49)], type := 23, pos := "ref.go:64", after := #[{ on := 0, ground := Ground.data }, { on := 3, ground := Ground.data }, { on := 6, ground := Ground.data }, { on := 9, ground := Ground.data }], guard := none }) (v := ?v3_10) rfl (by kernel_rfl) (by kernel_rfl) (by kernel_rfl) (fun _ _ _ h => h) (Or.inl ⟨by rfl, ?hy3_10⟩) hHe0 ?rest3_10
    case hy3_10 => (intro wy hSw; go_simp; try (with_reducible rfl))
    try simp only [Act.put, List.setIfInBounds_toArray, List.set_cons_zero, List.set_cons_succ]
    refine wpAnyH_ready (rs := [11]) (by kernel_rfl) (by simp) ?_
    refine AllReadyH.cons (o := { dst := some 6, op := Op.alloc 23, type := 0, pos := "ref.go:64", after := #[], guard := none }) rfl (fun K hK => ?_) AllReadyH.nil
    go_simp
    refine hK.out _ _ trivial (fun _ => ?_)
    clear hK K
    try simp only [Act.put, List.setIfInBounds_toArray, List.set_cons_zero, List.set_cons_succ]
    refine wpAnyH_ready (rs := [12]) (by kernel_rfl) (by simp) ?_
    refine AllReadyH.cons (o := { dst := none, op := Op.store 23 (Operand.tmp 6) (Operand.tmp 50), type := 0, pos := "ref.go:64", after := #[{ on := 11, ground := Ground.data }, { on := 10, ground := Ground.data }, { on := 0, ground := Ground.phase }, { on := 1, ground := Ground.phase }, { on := 2, ground := Ground.phase }, { on := 3, ground := Ground.phase }, { on := 4, ground := Ground.phase }, { on := 5, ground := Ground.phase }, { on := 6, ground := Ground.phase }, { on := 7, ground := Ground.phase }, { on := 8, ground := Ground.phase }, { on := 9, ground := Ground.phase }, { on := 10, ground := Ground.phase }, { on := 11, ground := Ground.phase }], guard := none }) rfl (fun K hK => ?_) AllReadyH.nil
    go_simp
    refine hK.out _ _ trivial (fun _ => ?_)
    clear hK K
    try simp only [Act.put, List.setIfInBounds_toArray, List.set_cons_zero, List.set_cons_succ]
    refine wpAnyH_done (by kernel_rfl) ?_ _
    refine NoPanic.normal ?_
    -- END 3
    have HEQ : Hid (((S s)[0]'(z 0 (by omega))).toNat = (s.getD 0 0).toNat ∧ ((S s)[1]'(z 1 (by omega))).toNat = (s.getD 1 0).toNat ∧ ((S s)[2]'(z 2 (by omega))).toNat = (s.getD 2 0).toNat) := Lib.hid ⟨by rw [S_at], by rw [S_at], by rw [S_at]⟩
    generalize ((S s)[0]'(z 0 (by omega))).toNat = C0 at HEQ ⊢
    generalize ((S s)[1]'(z 1 (by omega))).toNat = C1 at HEQ ⊢
    generalize ((S s)[2]'(z 2 (by omega))).toNat = C2 at HEQ ⊢
    have h0 : RT w (((w.alloc (.cells #[.int .i64 0, .string ⟨#[]⟩, .string ⟨#[]⟩, .string ⟨#[]⟩, .string ⟨#[]⟩, .string ⟨#[]⟩, .int .i64 0, .int .i64 0, .int .i64 0, .bool false] 23)).alloc (.cells #[.int .i64 (C0 : Int), .string (S n), .string ⟨#[]⟩, .string ⟨#[]⟩, .string ⟨#[]⟩, .string ⟨#[]⟩, .int .i64 0, .int .i64 0, .int .i64 (C1 : Int), .bool ((C2 : Int) == 1)] 23)).drew) w.heap.size ⟨(C0 : Int), n, [], [], [], [], 0, 0, (C1 : Int), (C2 : Int) == 1⟩ := by
      obtain ⟨A1, hA1⟩ : ∃ A1, A1 = w.alloc (.cells #[.int .i64 0, .string ⟨#[]⟩, .string ⟨#[]⟩, .string ⟨#[]⟩, .string ⟨#[]⟩, .string ⟨#[]⟩, .int .i64 0, .int .i64 0, .int .i64 0, .bool false] 23) := ⟨_, rfl⟩
      have z1 : A1.heap.size = w.heap.size + 1 := by rw [hA1]; simp
      have b1 : A1.heap[w.heap.size]? = some (.cells (recCs noRec) 23 (0, 0)) := by rw [hA1]; exact heap_alloc_new w _
      have g1 : Below w.heap.size w A1 := by rw [hA1]; exact (Below.refl _ _).alloc (Nat.le_refl _) _
      rw [← hA1]
      clear hA1
      have g2 : Below A1.heap.size A1 (A1.alloc (.cells #[.int .i64 (C0 : Int), .string (S n), .string ⟨#[]⟩, .string ⟨#[]⟩, .string ⟨#[]⟩, .string ⟨#[]⟩, .int .i64 0, .int .i64 0, .int .i64 (C1 : Int), .bool ((C2 : Int) == 1)] 23)) := (Below.refl _ _).alloc (Nat.le_refl _) _
      refine ⟨?_, (g2.block _ (by omega)).trans b1, (g1.trans (g2.mono g1.size)).drew, Nat.le_trans g1.size g2.size⟩
      rw [← z1]
      exact heap_alloc_new A1 _
    generalize ((w.alloc (.cells #[.int .i64 0, .string ⟨#[]⟩, .string ⟨#[]⟩, .string ⟨#[]⟩, .string ⟨#[]⟩, .string ⟨#[]⟩, .int .i64 0, .int .i64 0, .int .i64 0, .bool false] 23)).alloc (.cells #[.int .i64 (C0 : Int), .string (S n), .string ⟨#[]⟩, .string ⟨#[]⟩, .string ⟨#[]⟩, .string ⟨#[]⟩, .int .i64 0, .int .i64 0, .int .i64 (C1 : Int), .bool ((C2 : Int) == 1)] 23)).drew = w0 at h0 ⊢
    have H0 := Lib.hid h0
    have HZ := Lib.hid z
    clear h0
    go_wp2_with fail
    go_loopw [7] (fun iv wr => ∃ j : Nat, j ≤ 8 ∧ iv = .int .i64 ((3 + j : Nat) : Int) ∧ RT w wr w.heap.size ⟨(C0 : Int), n, [], [], [], [], (Rk.num ((s.drop 3).take j) : Int), (Rk.num ((s.drop 11).take j) : Int), (C1 : Int), (C2 : Int) == 1⟩) (fun iv _ => 11 - (intOf iv).toNat)
    case atStart => exact ⟨0, Nat.zero_le _, rfl, by rw [List.take_zero, List.take_zero]; exact H0.out⟩
    case round =>
      obtain ⟨j, hj, rfl, hrt⟩ := hrel
      have HRT := Lib.hid hrt
      clear hrt
      by_cases hlt : j < 8
      · have hm : Rk.num ((s.drop 3).take j) < 281474976710656 := by rcases HB.out j with h | h <;> omega
        have hu : Rk.num ((s.drop 11).take j) < 281474976710656 := by rcases HB2.out j with h | h <;> omega
        have HM : Hid (Rk.num ((s.drop 3).take (j + 1)) = 256 * Rk.num ((s.drop 3).take j) + (s.getD (3 + j) 0).toNat) := Lib.hid (Rk.num_take (by omega))
        have HU : Hid (Rk.num ((s.drop 11).take (j + 1)) = 256 * Rk.num ((s.drop 11).take j) + (s.getD (11 + j) 0).toNat) := Lib.hid (Rk.num_take (by omega))
        have g1 : 3 + j < (S s).size := by show _ < s.length; omega
        have g2 : 11 + j < (S s).size := by show _ < s.length; omega
        have HB1 := Lib.hid (S_at s (3 + j) g1)
        have HB3 := Lib.hid (S_at s (11 + j) g2)
        generalize Rk.num ((s.drop 3).take j) = mm at hm HM HRT
        generalize Rk.num ((s.drop 11).take j) = uu at hu HU HRT
        obtain ⟨q, hq⟩ : ∃ q, q = 3 + j := ⟨_, rfl⟩
        obtain ⟨q8, hq8⟩ : ∃ q8, q8 = 11 + j := ⟨_, rfl⟩
        have HQ := Lib.hid (And.intro hq hq8)
        have e8 : (q : Int) + 8 = (q8 : Int) := by omega
        rw [← hq8] at g2
        rw [← hq] at g1
        have hqI : (q : Int) < 11 := by omega
        have hqs : (q : Int) < (s.length : Int) := by omega
        have hqs8 : (q8 : Int) < (s.length : Int) := by omega
        have hq0 : (0 : Int) ≤ (q : Int) := by omega
        have xq : IntKind.i64.wrap (q : Int) = (q : Int) := IntWalk.i64_in _ (by omega)
        have xq8 : IntKind.i64.wrap (q8 : Int) = (q8 : Int) := IntWalk.i64_in _ (by omega)
        have hq80 : (0 : Int) ≤ (q8 : Int) := by omega
        have b1 := ((S s)[q]'g1).toNat_lt
        have b2 := ((S s)[q8]'g2).toNat_lt
        have x1 : IntKind.i64.wrap (((S s)[q]'g1).toNat : Int) = (((S s)[q]'g1).toNat : Int) := IntWalk.i64_in _ (by omega)
        have x2 : IntKind.i64.wrap (((S s)[q8]'g2).toNat : Int) = (((S s)[q8]'g2).toNat : Int) := IntWalk.i64_in _ (by omega)
        have m1 : IntKind.i64.wrap (256 * (mm : Int)) = 256 * (mm : Int) := IntWalk.i64_in _ (by omega)
        have m2 : IntKind.i64.wrap (256 * (mm : Int) + (((S s)[q]'g1).toNat : Int)) = 256 * (mm : Int) + (((S s)[q]'g1).toNat : Int) := IntWalk.i64_in _ (by omega)
        have u1 : IntKind.i64.wrap (256 * (uu : Int)) = 256 * (uu : Int) := IntWalk.i64_in _ (by omega)
        have u2 : IntKind.i64.wrap (256 * (uu : Int) + (((S s)[q8]'g2).toNat : Int)) = 256 * (uu : Int) + (((S s)[q8]'g2).toNat : Int) := IntWalk.i64_in _ (by omega)
        obtain ⟨-, -, -, -, -, -, c6, -, -, -⟩ := HRT.out.at
        have z6 := HRT.out.frozen 6
        dsimp only at c6
        rw [← hq]
        clear hq hq8
        go_wp2_with fail
        -- REGION 7
        refine wp_region_noPanic ?_
        refine wp_region_held_drew (S := fun _ => True) (by kernel_rfl) trivial (fun hHe0 => ?_)
        refine wpAnyH_take (i := 0) (oi := { dst := some 55, op := Op.fieldAddr 23 (Operand.tmp 6) 6, type := 0, pos := "ref.go:66", after := #[], guard := none }) (v := ?v7_0) rfl (by kernel_rfl) (by kernel_rfl) (by kernel_rfl) (fun _ _ _ h => h) (Or.inl ⟨by rfl, ?hy7_0⟩) hHe0 ?rest7_0
        case hy7_0 => (intro wy hSw; go_simp; try (with_reducible rfl))
        try simp only [Act.put, List.setIfInBounds_toArray, List.set_cons_zero, List.set_cons_succ]
        refine wpAnyH_take (i := 3) (oi := { dst := some 58, op := Op.move (Operand.tmp 1), type := 9, pos := "ref.go:66", after := #[], guard := none }) (v := ?v7_3) rfl (by kernel_rfl) (by kernel_rfl) (by kernel_rfl) (fun _ _ _ h => h) (Or.inl ⟨by rfl, ?hy7_3⟩) hHe0 ?rest7_3
        case hy7_3 => (intro wy hSw; go_simp; try (with_reducible rfl))
        try simp only [Act.put, List.setIfInBounds_toArray, List.set_cons_zero, List.set_cons_succ]
        refine wpAnyH_take (i := 4) (oi := { dst := some 59, op := Op.move (Operand.tmp 7), type := 3, pos := "ref.go:66", after := #[], guard := none }) (v := ?v7_4) rfl (by kernel_rfl) (by kernel_rfl) (by kernel_rfl) (fun _ _ _ h => h) (Or.inl ⟨by rfl, ?hy7_4⟩) hHe0 ?rest7_4
        case hy7_4 => (intro wy hSw; go_simp; try (with_reducible rfl))
        try simp only [Act.put, List.setIfInBounds_toArray, List.set_cons_zero, List.set_cons_succ]
        refine wpAnyH_take (i := 5) (oi := { dst := some 60, op := Op.index 9 (Operand.tmp 58) (Operand.tmp 59), type := 5, pos := "ref.go:66", after := #[{ on := 3, ground := Ground.data }, { on := 4, ground := Ground.data }], guard := none }) (v := ?v7_5) rfl (by kernel_rfl) (by kernel_rfl) (by kernel_rfl) (fun _ _ _ h => h) (Or.inl ⟨by rfl, ?hy7_5⟩) hHe0 ?rest7_5
        case hy7_5 => (intro wy hSw; go_simp; try (with_reducible rfl))
        try simp only [Act.put, List.setIfInBounds_toArray, List.set_cons_zero, List.set_cons_succ]
        refine wpAnyH_take (i := 6) (oi := { dst := some 61, op := Op.convert 5 3 (Operand.tmp 60), type := 3, pos := "ref.go:66", after := #[{ on := 5, ground := Ground.data }], guard := none }) (v := ?v7_6) rfl (by kernel_rfl) (by kernel_rfl) (by kernel_rfl) (fun _ _ _ h => h) (Or.inl ⟨by rfl, ?hy7_6⟩) hHe0 ?rest7_6
        case hy7_6 => (intro wy hSw; go_simp; try (with_reducible rfl))
        try simp only [Act.put, List.setIfInBounds_toArray, List.set_cons_zero, List.set_cons_succ]
        refine wpAnyH_ready (rs := [1]) (by kernel_rfl) (by simp) ?_
        refine AllReadyH.cons (o := { dst := some 56, op := Op.load 3 (Operand.tmp 55), type := 3, pos := "ref.go:66", after := #[{ on := 0, ground := Ground.data }], guard := none }) rfl (fun K hK => ?_) AllReadyH.nil
        go_simp
        refine hK.out _ _ trivial (fun _ => ?_)
        clear hK K
        try simp only [Act.put, List.setIfInBounds_toArray, List.set_cons_zero, List.set_cons_succ]
        refine wpAnyH_take (i := 2) (oi := { dst := some 57, op := Op.binOp BinOp.mul 3 (Operand.const (Value.int IntKind.i64 256)) (Operand.tmp 56) 3, type := 3, pos := "ref.go:66", after := #[{ on := 1, ground := Ground.data }], guard := none }) (v := ?v7_2) rfl (by kernel_rfl) (by kernel_rfl) (by kernel_rfl) (fun _ _ _ h => h) (Or.inl ⟨by rfl, ?hy7_2⟩) hHe0 ?rest7_2
        case hy7_2 => (intro wy hSw; go_simp; try (with_reducible rfl))
        try simp only [Act.put, List.setIfInBounds_toArray, List.set_cons_zero, List.set_cons_succ]
        refine wpAnyH_take (i := 7) (oi := { dst := some 62, op := Op.binOp BinOp.add 3 (Operand.tmp 57) (Operand.tmp 61) 3, type := 3, pos := "ref.go:66", after := #[{ on := 2, ground := Ground.data }, { on := 6, ground := Ground.data }], guard := none }) (v := ?v7_7) rfl (by kernel_rfl) (by kernel_rfl) (by kernel_rfl) (fun _ _ _ h => h) (Or.inl ⟨by rfl, ?hy7_7⟩) hHe0 ?rest7_7
        case hy7_7 => (intro wy hSw; go_simp; try (with_reducible rfl))
        try simp only [Act.put, List.setIfInBounds_toArray, List.set_cons_zero, List.set_cons_succ]
        refine wpAnyH_take (i := 8) (oi := { dst := some 63, op := Op.fieldAddr 23 (Operand.tmp 6) 6, type := 0, pos := "ref.go:66", after := #[{ on := 0, ground := Ground.phase }, { on := 1, ground := Ground.phase }, { on := 2, ground := Ground.phase }, { on := 3, ground := Ground.phase }, { on := 4, ground := Ground.phase }, { on := 5, ground := Ground.phase }, { on := 6, ground := Ground.phase }, { on := 7, ground := Ground.phase }], guard := none }) (v := ?v7_8) rfl (by kernel_rfl) (by kernel_rfl) (by kernel_rfl) (fun _ _ _ h => h) (Or.inl ⟨by rfl, ?hy7_8⟩) hHe0 ?rest7_8
        case hy7_8 => (intro wy hSw; go_simp; try (with_reducible rfl))
        try simp only [Act.put, List.setIfInBounds_toArray, List.set_cons_zero, List.set_cons_succ]
        refine wpAnyH_ready (rs := [9]) (by kernel_rfl) (by simp) ?_
        refine AllReadyH.cons (o := { dst := none, op := Op.store 3 (Operand.tmp 63) (Operand.tmp 62), type := 0, pos := "ref.go:66", after := #[{ on := 8, ground := Ground.data }, { on := 7, ground := Ground.data }, { on := 0, ground := Ground.phase }, { on := 1, ground := Ground.phase }, { on := 2, ground := Ground.phase }, { on := 3, ground := Ground.phase }, { on := 4, ground := Ground.phase }, { on := 5, ground := Ground.phase }, { on := 6, ground := Ground.phase }, { on := 7, ground := Ground.phase }], guard := none }) rfl (fun K hK => ?_) AllReadyH.nil
        go_simp
        refine hK.out _ _ trivial (fun _ => ?_)
        clear hK K
        try simp only [Act.put, List.setIfInBounds_toArray, List.set_cons_zero, List.set_cons_succ]
        refine wpAnyH_done (by kernel_rfl) ?_ _
        refine NoPanic.normal ?_
        -- END 7
        have h7 := (HRT.out.store 6 (.int .i64 (256 * (mm : Int) + (((S s)[q]'g1).toNat : Int))) ⟨(C0 : Int), n, [], [], [], [], 256 * (mm : Int) + (((S s)[q]'g1).toNat : Int), (uu : Int), (C1 : Int), (C2 : Int) == 1⟩ rfl).drew
        generalize (wr.setCell ⟨w.heap.size + 1, 6, none⟩ (.int .i64 (256 * (mm : Int) + (((S s)[q]'g1).toNat : Int)))).drew = wv at h7 ⊢
        have H7 := Lib.hid h7
        clear h7 c6 z6
        obtain ⟨-, -, -, -, -, -, -, c7, -, -⟩ := H7.out.at
        have z7 := H7.out.frozen 7
        dsimp only at c7
        go_wp2_with fail
        -- REGION 8
        refine wp_region_noPanic ?_
        refine wp_region_held_drew (S := fun _ => True) (by kernel_rfl) trivial (fun hHe0 => ?_)
        refine wpAnyH_take (i := 0) (oi := { dst := some 64, op := Op.fieldAddr 23 (Operand.tmp 6) 7, type := 0, pos := "ref.go:67", after := #[], guard := none }) (v := ?v8_0) rfl (by kernel_rfl) (by kernel_rfl) (by kernel_rfl) (fun _ _ _ h => h) (Or.inl ⟨by rfl, ?hy8_0⟩) hHe0 ?rest8_0
        case hy8_0 => (intro wy hSw; go_simp; try (with_reducible rfl))
        try simp only [Act.put, List.setIfInBounds_toArray, List.set_cons_zero, List.set_cons_succ]
        refine wpAnyH_take (i := 3) (oi := { dst := some 67, op := Op.move (Operand.tmp 1), type := 9, pos := "ref.go:67", after := #[], guard := none }) (v := ?v8_3) rfl (by kernel_rfl) (by kernel_rfl) (by kernel_rfl) (fun _ _ _ h => h) (Or.inl ⟨by rfl, ?hy8_3⟩) hHe0 ?rest8_3
        case hy8_3 => (intro wy hSw; go_simp; try (with_reducible rfl))
        try simp only [Act.put, List.setIfInBounds_toArray, List.set_cons_zero, List.set_cons_succ]
        refine wpAnyH_take (i := 4) (oi := { dst := some 68, op := Op.move (Operand.tmp 7), type := 3, pos := "ref.go:67", after := #[], guard := none }) (v := ?v8_4) rfl (by kernel_rfl) (by kernel_rfl) (by kernel_rfl) (fun _ _ _ h => h) (Or.inl ⟨by rfl, ?hy8_4⟩) hHe0 ?rest8_4
        case hy8_4 => (intro wy hSw; go_simp; try (with_reducible rfl))
        try simp only [Act.put, List.setIfInBounds_toArray, List.set_cons_zero, List.set_cons_succ]
        refine wpAnyH_take (i := 5) (oi := { dst := some 69, op := Op.binOp BinOp.add 3 (Operand.tmp 68) (Operand.const (Value.int IntKind.i64 8)) 3, type := 3, pos := "ref.go:67", after := #[{ on := 4, ground := Ground.data }], guard := none }) (v := ?v8_5) rfl (by kernel_rfl) (by kernel_rfl) (by kernel_rfl) (fun _ _ _ h => h) (Or.inl ⟨by rfl, ?hy8_5⟩) hHe0 ?rest8_5
        case hy8_5 => (intro wy hSw; go_simp; try (with_reducible rfl))
        try simp only [Act.put, List.setIfInBounds_toArray, List.set_cons_zero, List.set_cons_succ]
        refine wpAnyH_take (i := 6) (oi := { dst := some 70, op := Op.index 9 (Operand.tmp 67) (Operand.tmp 69), type := 5, pos := "ref.go:67", after := #[{ on := 3, ground := Ground.data }, { on := 5, ground := Ground.data }], guard := none }) (v := ?v8_6) rfl (by kernel_rfl) (by kernel_rfl) (by kernel_rfl) (fun _ _ _ h => h) (Or.inl ⟨by rfl, ?hy8_6⟩) hHe0 ?rest8_6
        case hy8_6 => (intro wy hSw; go_simp; try (with_reducible rfl))
        try simp only [Act.put, List.setIfInBounds_toArray, List.set_cons_zero, List.set_cons_succ]
        refine wpAnyH_take (i := 7) (oi := { dst := some 71, op := Op.convert 5 3 (Operand.tmp 70), type := 3, pos := "ref.go:67", after := #[{ on := 6, ground := Ground.data }], guard := none }) (v := ?v8_7) rfl (by kernel_rfl) (by kernel_rfl) (by kernel_rfl) (fun _ _ _ h => h) (Or.inl ⟨by rfl, ?hy8_7⟩) hHe0 ?rest8_7
        case hy8_7 => (intro wy hSw; go_simp; try (with_reducible rfl))
        try simp only [Act.put, List.setIfInBounds_toArray, List.set_cons_zero, List.set_cons_succ]
        refine wpAnyH_ready (rs := [1]) (by kernel_rfl) (by simp) ?_
        refine AllReadyH.cons (o := { dst := some 65, op := Op.load 3 (Operand.tmp 64), type := 3, pos := "ref.go:67", after := #[{ on := 0, ground := Ground.data }], guard := none }) rfl (fun K hK => ?_) AllReadyH.nil
        go_simp
        refine hK.out _ _ trivial (fun _ => ?_)
        clear hK K
        try simp only [Act.put, List.setIfInBounds_toArray, List.set_cons_zero, List.set_cons_succ]
        refine wpAnyH_take (i := 2) (oi := { dst := some 66, op := Op.binOp BinOp.mul 3 (Operand.const (Value.int IntKind.i64 256)) (Operand.tmp 65) 3, type := 3, pos := "ref.go:67", after := #[{ on := 1, ground := Ground.data }], guard := none }) (v := ?v8_2) rfl (by kernel_rfl) (by kernel_rfl) (by kernel_rfl) (fun _ _ _ h => h) (Or.inl ⟨by rfl, ?hy8_2⟩) hHe0 ?rest8_2
        case hy8_2 => (intro wy hSw; go_simp; try (with_reducible rfl))
        try simp only [Act.put, List.setIfInBounds_toArray, List.set_cons_zero, List.set_cons_succ]
        refine wpAnyH_take (i := 8) (oi := { dst := some 72, op := Op.binOp BinOp.add 3 (Operand.tmp 66) (Operand.tmp 71) 3, type := 3, pos := "ref.go:67", after := #[{ on := 2, ground := Ground.data }, { on := 7, ground := Ground.data }], guard := none }) (v := ?v8_8) rfl (by kernel_rfl) (by kernel_rfl) (by kernel_rfl) (fun _ _ _ h => h) (Or.inl ⟨by rfl, ?hy8_8⟩) hHe0 ?rest8_8
        case hy8_8 => (intro wy hSw; go_simp; try (with_reducible rfl))
        try simp only [Act.put, List.setIfInBounds_toArray, List.set_cons_zero, List.set_cons_succ]
        refine wpAnyH_take (i := 9) (oi := { dst := some 73, op := Op.fieldAddr 23 (Operand.tmp 6) 7, type := 0, pos := "ref.go:67", after := #[{ on := 0, ground := Ground.phase }, { on := 1, ground := Ground.phase }, { on := 2, ground := Ground.phase }, { on := 3, ground := Ground.phase }, { on := 4, ground := Ground.phase }, { on := 5, ground := Ground.phase }, { on := 6, ground := Ground.phase }, { on := 7, ground := Ground.phase }, { on := 8, ground := Ground.phase }], guard := none }) (v := ?v8_9) rfl (by kernel_rfl) (by kernel_rfl) (by kernel_rfl) (fun _ _ _ h => h) (Or.inl ⟨by rfl, ?hy8_9⟩) hHe0 ?rest8_9
        case hy8_9 => (intro wy hSw; go_simp; try (with_reducible rfl))
        try simp only [Act.put, List.setIfInBounds_toArray, List.set_cons_zero, List.set_cons_succ]
        refine wpAnyH_ready (rs := [10]) (by kernel_rfl) (by simp) ?_
        refine AllReadyH.cons (o := { dst := none, op := Op.store 3 (Operand.tmp 73) (Operand.tmp 72), type := 0, pos := "ref.go:67", after := #[{ on := 9, ground := Ground.data }, { on := 8, ground := Ground.data }, { on := 0, ground := Ground.phase }, { on := 1, ground := Ground.phase }, { on := 2, ground := Ground.phase }, { on := 3, ground := Ground.phase }, { on := 4, ground := Ground.phase }, { on := 5, ground := Ground.phase }, { on := 6, ground := Ground.phase }, { on := 7, ground := Ground.phase }, { on := 8, ground := Ground.phase }], guard := none }) rfl (fun K hK => ?_) AllReadyH.nil
        go_simp
        refine hK.out _ _ trivial (fun _ => ?_)
        clear hK K
        try simp only [Act.put, List.setIfInBounds_toArray, List.set_cons_zero, List.set_cons_succ]
        refine wpAnyH_done (by kernel_rfl) ?_ _
        refine NoPanic.normal ?_
        -- END 8
        have h8 := (H7.out.store 7 (.int .i64 (256 * (uu : Int) + (((S s)[q8]'g2).toNat : Int))) ⟨(C0 : Int), n, [], [], [], [], 256 * (mm : Int) + (((S s)[q]'g1).toNat : Int), 256 * (uu : Int) + (((S s)[q8]'g2).toNat : Int), (C1 : Int), (C2 : Int) == 1⟩ rfl).drew
        generalize (wv.setCell ⟨w.heap.size + 1, 7, none⟩ (.int .i64 (256 * (uu : Int) + (((S s)[q8]'g2).toNat : Int)))).drew = wu at h8 ⊢
        have H8 := Lib.hid h8
        clear h8 c7 z7
        go_wp2_with fail
        go_roundw
        case rel =>
          refine ⟨j + 1, by omega, by rw [HQ.out.1]; go_num, ?_⟩
          have hr := H8.out
          have e1 : (((S s)[q]'g1).toNat) = (s.getD (3 + j) 0).toNat := by rw [S_at, HQ.out.1]
          have e2 : (((S s)[q8]'g2).toNat) = (s.getD (11 + j) 0).toNat := by rw [S_at, HQ.out.2]
          rw [HM.out, HU.out]
          rw [e1, e2] at hr
          simpa using hr
        case measure => simp [intOf]; omega
      · have hj8 : j = 8 := by omega
        subst hj8
        go_wp2_with fail
        obtain ⟨W8, rfl⟩ : ∃ W8, W8 = wr := ⟨_, rfl⟩
        obtain ⟨MM, hMM⟩ : ∃ MM, MM = Rk.num ((s.drop 3).take 8) := ⟨_, rfl⟩
        obtain ⟨UU, hUU⟩ : ∃ UU, UU = Rk.num ((s.drop 11).take 8) := ⟨_, rfl⟩
        rw [← hMM, ← hUU] at HRT
        have HMU := Lib.hid (And.intro hMM hUU)
        have HOUT : Hid (∀ wx, Below W8.heap.size W8 wx → RecAt wx w.heap.size noRec ∧ (∀ i, wx.frozen? ⟨w.heap.size, i, none⟩ = false) ∧ (∀ r', RecAt (recLay wx w.heap.size r') w.heap.size r' ∧ Below w.heap.size w (recLay wx w.heap.size r'))) := Lib.hid fun wx hb => by
          have hr := HRT.out.next hb
          have q2 := hr.out
          exact ⟨recAt_blk q2, fun i => by simp [World.frozen?, q2], fun r' => ⟨(recLay_at r' q2).1, hr.below.grown (recLay_at r' q2).2 hr.size (fun q hq => by cases hq; exact Nat.le_refl _)⟩⟩
        obtain ⟨i0, hi0, hz0, hz1, hz2⟩ := info_parts Tryd.infoString
        clear hMM hUU n0 k1 k2 k3 k4 k11 k12 v0 v1 q2 j1 q3 q4 q11 q12
        go_loopw [8, 9] (fun av lv wr => ∃ (l : List (List UInt8)) (at_ : Nat) (A : Option Addr) (c : Nat), l.length ≤ 4 ∧ av = .int .i64 (at_ : Int) ∧ lv = .slice A l.length c ∧ Rk.texts l.length (s.drop 19) = some (l, s.drop at_) ∧ at_ ≤ s.length ∧ SRow W8.heap.size wr lv l ∧ Below W8.heap.size W8 wr) (fun _ lv _ => 4 - sliceLen lv)
        case atStart => exact ⟨[], 19, none, 0, by simp, rfl, rfl, rfl, by omega, World.ownsRow_nil _ _ _ _, Below.refl _ _⟩
        case round =>
          obtain ⟨l, at_, A, c, hl4, rfl, rfl, htx, hat, hrow, hb⟩ := hrel
          have HTX := Lib.hid htx
          clear htx
          by_cases hk : l.length < 4
          · have hkI : (l.length : Int) < 4 := by omega
            have ha0 : (0 : Int) ≤ (at_ : Int) := by omega
            have hax : IntKind.i64.wrap (at_ : Int) = (at_ : Int) := IntWalk.i64_in _ (by omega)
            by_cases hlt2 : at_ < s.length
            · have g1 : at_ < (S s).size := hlt2
              have hge : ¬ (s.length : Int) ≤ (at_ : Int) := by omega
              have hlI : (at_ : Int) < (s.length : Int) := by omega
              have HDR : Hid (s.drop at_ = (S s)[at_]'g1 :: s.drop (at_ + 1)) := Lib.hid (by rw [List.drop_eq_getElem_cons hlt2]; rfl)
              have hcl := ((S s)[at_]'g1).toNat_lt
              have HST : Hid (Rk.texts (l.length + 1) (s.drop 19) = if ((S s)[at_]'g1).toNat ≤ (s.drop (at_ + 1)).length then some (l ++ [(s.drop (at_ + 1)).take ((S s)[at_]'g1).toNat], (s.drop (at_ + 1)).drop ((S s)[at_]'g1).toNat) else none) := Lib.hid (by
                rw [Rk.texts_step _ _ _ _ HTX.out, HDR.out, Rk.one]
                split <;> rfl)
              generalize hC : ((S s)[at_]'g1).toNat = C at hcl HST
              obtain ⟨a1, ha1⟩ : ∃ a1, a1 = at_ + 1 := ⟨_, rfl⟩
              obtain ⟨a2, ha2⟩ : ∃ a2, a2 = at_ + 1 + C := ⟨_, rfl⟩
              have e1 : (at_ : Int) + 1 = (a1 : Int) := by omega
              have e2 : (a1 : Int) + (C : Int) = (a2 : Int) := by omega
              have x0 : IntKind.i64.wrap (C : Int) = (C : Int) := IntWalk.i64_in _ (by omega)
              have x1 : IntKind.i64.wrap (a1 : Int) = (a1 : Int) := IntWalk.i64_in _ (by omega)
              have x2 : IntKind.i64.wrap (a2 : Int) = (a2 : Int) := IntWalk.i64_in _ (by omega)
              by_cases hc : a2 ≤ s.length
              · have hcI : ¬ (s.length : Int) < (a2 : Int) := by omega
                obtain ⟨y, hy⟩ : ∃ y, y = (s.drop (at_ + 1)).take C := ⟨_, rfl⟩
                have hyx : (S s).extract a1 a2 = S y := by
                  apply S_ext
                  rw [ByteArray.data_extract, Array.toList_extract, List.extract_eq_take_drop, hy, ha1, ha2]
                  show (s.drop (at_ + 1)).take _ = _
                  congr 1
                  omega
                have HST2 : Hid (Rk.texts (l ++ [y]).length (s.drop 19) = some (l ++ [y], s.drop a2)) := Lib.hid (by
                  rw [List.length_append]
                  show Rk.texts (l.length + 1) _ = _
                  rw [HST.out, if_pos (by rw [List.length_drop]; omega), ← hy, List.drop_drop, ha2])
                have hown : wr.ownsRow W8.heap.size 9 1 (.slice A l.length c) l.length (strsV l) := hrow
                have hbs := hb.size
                have a1le : (a1 : Int) ≤ (a2 : Int) := by omega
                have a2le : (a2 : Int) ≤ (s.length : Int) := by omega
                have a10 : (0 : Int) ≤ (a1 : Int) := by omega
                clear hy HST HDR ha1 ha2
                go_upto_region 14 with fail
                go_wp2_with (at_builtin; (refine wpList_append_lies _ rfl (.tmp 94) (.tmp 106) _ rfl W8.heap.size 9 i0 _ 1 16 Tryd.underlying40 hi0 hz0 hz1 hz2 rfl (by omega) _ l.length (strsV l) rfl (hown.alloc _) ⟨wr.heap.size, 0, none⟩ 1 1 [.string (S y)] rfl rfl (World.news_of_block (cs := #[.string (S y)]) (t := 9) (fr := (0, 0)) (heap_alloc_new wr _)) (by simp [Value.oneCell']) (by omega) (by unfold maxLen; omega) (by omega) (by simp; omega) (wr.heap.size + 1) (by simp) ?_); intro gg cap w5 hown5 hgrow hat5 hlt5)
                go_roundw
                case rel => exact ⟨_, .int .i64 (a2 : Int), .slice (some ⟨gg, 0, none⟩) (l.length + 1) cap, ⟨l ++ [y], by simp; omega, a2, rfl, ⟨some ⟨gg, 0, none⟩, cap, by rw [List.length_append]; rfl⟩, HST2.out, hc, srow_snoc hown5, (hb.alloc hbs _).grown hgrow (by simp; omega) (fun k hk => (hown.lt k hk).1)⟩, rfl, rfl, rfl⟩
                case measure => simp [sliceLen]; omega
              · have hcI : (s.length : Int) < (a2 : Int) := by omega
                have HN : Hid (decV n s = .tuple #[recV noRec, .int .i64 8]) := Lib.hid (by
                  have h4 : Rk.texts 4 (s.drop 19) = none := Rk.texts_up (by rw [HST.out, if_neg (by rw [List.length_drop]; omega)]) (by omega)
                  rw [HD.out]
                  unfold Rk.refDec
                  rw [if_pos hh, h4])
                obtain ⟨⟨o0, o1, o2, o3, o4, o5, o6, o7, o8, o9⟩, hfz, hlay⟩ := HOUT.out wr hb
                clear ha1 ha2
                go_wp2_with fail
                clear hfz o0 o1 o2 o3 o4 o5 o6 o7 o8 o9
                obtain ⟨⟨z0, z1, z2, z3, z4, z5, z6, z7, z8, z9⟩, hbz⟩ := hlay noRec
                change bodyPost Tryd.prog _ _ _ _ (recLay wr w.heap.size noRec)
                refine bodyPost_ret (v := .tuple #[recV noRec, .int .i64 8]) ?_ rfl ⟨by rw [HN.out], hbz⟩
                clear hbz
                generalize recLay wr w.heap.size noRec = wz at z0 z1 z2 z3 z4 z5 z6 z7 z8 z9
                simp [results, Tryd.results13, go_sem, z0, z1, z2, z3, z4, z5, z6, z7, z8, z9]
                rfl
            · have hge : (s.length : Int) ≤ (at_ : Int) := by omega
              have HN : Hid (decV n s = .tuple #[recV noRec, .int .i64 8]) := Lib.hid (by
                have h4 : Rk.texts 4 (s.drop 19) = none := Rk.texts_up (k := l.length + 1) (by rw [Rk.texts_step _ _ _ _ HTX.out, List.drop_eq_nil_of_le (by omega)]; rfl) (by omega)
                rw [HD.out]
                unfold Rk.refDec
                rw [if_pos hh, h4])
              obtain ⟨⟨o0, o1, o2, o3, o4, o5, o6, o7, o8, o9⟩, hfz, hlay⟩ := HOUT.out wr hb
              go_wp2_with fail
              clear hfz o0 o1 o2 o3 o4 o5 o6 o7 o8 o9
              obtain ⟨⟨z0, z1, z2, z3, z4, z5, z6, z7, z8, z9⟩, hbz⟩ := hlay noRec
              change bodyPost Tryd.prog _ _ _ _ (recLay wr w.heap.size noRec)
              refine bodyPost_ret (v := .tuple #[recV noRec, .int .i64 8]) ?_ rfl ⟨by rw [HN.out], hbz⟩
              clear hbz
              generalize recLay wr w.heap.size noRec = wz at z0 z1 z2 z3 z4 z5 z6 z7 z8 z9
              simp [results, Tryd.results13, go_sem, z0, z1, z2, z3, z4, z5, z6, z7, z8, z9]
              rfl
          · have hk4 : l.length = 4 := by omega
            have hkI : ¬ (l.length : Int) < 4 := by omega
            have hbs := hb.size
            have hr0 := HRT.out.next hb
            obtain ⟨p, u, sv, ul, rfl⟩ : ∃ p u sv ul, l = [p, u, sv, ul] := by
              match l, hk4 with
              | [p, u, sv, ul], _ => exact ⟨p, u, sv, ul, rfl⟩
            obtain ⟨_, _, hx255⟩ := Rk.texts_back _ _ _ _ HTX.out
            have hpl : p.length ≤ 255 := hx255 p (by simp)
            obtain ⟨g, cap', hv, hgl, hcells⟩ := SRow.open hrow (by simp)
            have hgb : W8.heap.size ≤ g := (World.ownsRow.lt hrow g (by rw [hv]; rfl)).1
            have hlt0 := lt_of_blk HRT.out.rc
            injection hv with hA hL hC'
            subst hA
            have c0 := hcells 0 (by simp)
            have c1 := hcells 1 (by simp)
            have c2 := hcells 2 (by simp)
            have c3 := hcells 3 (by simp)
            have hgne : g ≠ w.heap.size + 1 := by omega
            have keepg : ∀ (wx : World) (i k : Nat) (v : Value), (wx.setCell ⟨w.heap.size + 1, i, none⟩ v).cell? ⟨g, k, none⟩ = wx.cell? ⟨g, k, none⟩ := fun wx i k v => World.cell?_of_block (heap_setCell_other wx ⟨w.heap.size + 1, i, none⟩ g v (by simpa using hgne))
            have z2 := hr0.frozen 2
            have z3 := hr0.frozen 3
            have z4 := hr0.frozen 4
            have z5 := hr0.frozen 5
            obtain ⟨-, -, d2, d3, d4, d5, -, -, -, -⟩ := hr0.at
            have HR := Lib.hid ((((hr0.store 2 (.string (S p)) ⟨(C0 : Int), n, p, [], [], [], (MM : Int), (UU : Int), (C1 : Int), (C2 : Int) == 1⟩ rfl).store 3 (.string (S u)) ⟨(C0 : Int), n, p, u, [], [], (MM : Int), (UU : Int), (C1 : Int), (C2 : Int) == 1⟩ rfl).store 4 (.string (S sv)) ⟨(C0 : Int), n, p, u, sv, [], (MM : Int), (UU : Int), (C1 : Int), (C2 : Int) == 1⟩ rfl).store 5 (.string (S ul)) ⟨(C0 : Int), n, p, u, sv, ul, (MM : Int), (UU : Int), (C1 : Int), (C2 : Int) == 1⟩ rfl)
            have c0' : wr.cell? ⟨g, 0, none⟩ = some (.string (S p)) := c0
            have c1' : wr.cell? ⟨g, 1, none⟩ = some (.string (S u)) := c1
            have c2' : wr.cell? ⟨g, 2, none⟩ = some (.string (S sv)) := c2
            have c3' : wr.cell? ⟨g, 3, none⟩ = some (.string (S ul)) := c3
            clear c0 c1 c2 c3 hcells hrow hr0 hx255
            go_upto_region 20 with fail
            generalize (((wr.setCell ⟨w.heap.size + 1, 2, none⟩ (.string (S p))).setCell ⟨w.heap.size + 1, 3, none⟩ (.string (S u))).setCell ⟨w.heap.size + 1, 4, none⟩ (.string (S sv))).setCell ⟨w.heap.size + 1, 5, none⟩ (.string (S ul)) = wk at HR ⊢
            clear z2 z3 z4 z5 d2 d3 d4 d5 c0' c1' c2' c3' keepg
            have hRt := refRight13_any ⟨(C0 : Int), n, p, u, sv, ul, (MM : Int), (UU : Int), (C1 : Int), (C2 : Int) == 1⟩ hn (by show p.length ≤ _; omega) wk
            have hmk : Hid (Rk.mk n s [p, u, sv, ul] = ⟨(C0 : Int), n, p, u, sv, ul, (MM : Int), (UU : Int), (C1 : Int), (C2 : Int) == 1⟩) := Lib.hid (by
              unfold Rk.mk
              have hb2 : decide (C2 = 1) = ((C2 : Int) == 1) := by rw [Bool.eq_iff_iff]; simp; omega
              rw [← HMU.out.1, ← HMU.out.2, ← HEQ.out.1, ← HEQ.out.2.1, ← HEQ.out.2.2, hb2]
              rfl)
            obtain ⟨d0, d1, d2, d3, d4, d5, d6, d7, d8, d9⟩ := HR.out.at
            dsimp only at d0 d1 d2 d3 d4 d5 d6 d7 d8 d9
            have HOUT2 : Hid (∀ wx, Below wk.heap.size wk wx → RecAt wx (w.heap.size + 1) ⟨(C0 : Int), n, p, u, sv, ul, (MM : Int), (UU : Int), (C1 : Int), (C2 : Int) == 1⟩ ∧ RecAt wx w.heap.size noRec ∧ (∀ i, wx.frozen? ⟨w.heap.size, i, none⟩ = false) ∧ (∀ r', RecAt (recLay wx w.heap.size r') w.heap.size r' ∧ Below w.heap.size w (recLay wx w.heap.size r'))) := Lib.hid fun wx hb => by
              have hr := HR.out.next hb
              have q2 := hr.out
              exact ⟨hr.at, recAt_blk q2, fun i => by simp [World.frozen?, q2], fun r' => ⟨(recLay_at r' q2).1, hr.below.grown (recLay_at r' q2).2 hr.size (fun q hq => by cases hq; exact Nat.le_refl _)⟩⟩
            have hdq : Hid (Rk.refDec n s = if s.drop at_ = [] ∧ Rk.right ⟨(C0 : Int), n, p, u, sv, ul, (MM : Int), (UU : Int), (C1 : Int), (C2 : Int) == 1⟩ = true then some ⟨(C0 : Int), n, p, u, sv, ul, (MM : Int), (UU : Int), (C1 : Int), (C2 : Int) == 1⟩ else none) := Lib.hid (by
              unfold Rk.refDec
              rw [if_pos hh, show Rk.texts 4 (s.drop 19) = some ([p, u, sv, ul], s.drop at_) from HTX.out]
              dsimp only
              rw [hmk.out])
            unfold recV at hRt
            dsimp only at hRt
            by_cases hfin : at_ = s.length ∧ Rk.right ⟨(C0 : Int), n, p, u, sv, ul, (MM : Int), (UU : Int), (C1 : Int), (C2 : Int) == 1⟩ = true
            · obtain ⟨hfa, hfr⟩ := hfin
              have HN : Hid (decV n s = .tuple #[recV ⟨(C0 : Int), n, p, u, sv, ul, (MM : Int), (UU : Int), (C1 : Int), (C2 : Int) == 1⟩, .int .i64 0]) := Lib.hid (by
                rw [HD.out, hdq.out, if_pos ⟨by rw [hfa, List.drop_length], hfr⟩])
              rw [hfr] at hRt
              have hne : ((at_ : Int) != (s.length : Int)) = false := by simp; omega
              clear hfa
              go_wp2_with (go_at_call 15; refine hRt.mono ?_; rintro e wx ⟨rfl, hbx⟩; clear d0 d1 d2 d3 d4 d5 d6 d7 d8 d9; obtain ⟨⟨d0, d1, d2, d3, d4, d5, d6, d7, d8, d9⟩, ⟨o0, o1, o2, o3, o4, o5, o6, o7, o8, o9⟩, hfz, hlay⟩ := HOUT2.out wx hbx)
              clear hfz o0 o1 o2 o3 o4 o5 o6 o7 o8 o9 d0 d1 d2 d3 d4 d5 d6 d7 d8 d9
              obtain ⟨⟨z0, z1, z2, z3, z4, z5, z6, z7, z8, z9⟩, hbz⟩ := hlay ⟨(C0 : Int), n, p, u, sv, ul, (MM : Int), (UU : Int), (C1 : Int), (C2 : Int) == 1⟩
              change bodyPost Tryd.prog _ _ _ _ (recLay wx w.heap.size ⟨(C0 : Int), n, p, u, sv, ul, (MM : Int), (UU : Int), (C1 : Int), (C2 : Int) == 1⟩)
              refine bodyPost_ret (v := .tuple #[recV ⟨(C0 : Int), n, p, u, sv, ul, (MM : Int), (UU : Int), (C1 : Int), (C2 : Int) == 1⟩, .int .i64 0]) ?_ rfl ⟨by rw [HN.out], hbz⟩
              clear hbz
              generalize recLay wx w.heap.size ⟨(C0 : Int), n, p, u, sv, ul, (MM : Int), (UU : Int), (C1 : Int), (C2 : Int) == 1⟩ = wz at z0 z1 z2 z3 z4 z5 z6 z7 z8 z9
              simp [results, Tryd.results13, go_sem, z0, z1, z2, z3, z4, z5, z6, z7, z8, z9]
              rfl
            · have HN : Hid (decV n s = .tuple #[recV noRec, .int .i64 8]) := Lib.hid (by
                rw [HD.out, hdq.out, if_neg (fun h => hfin ⟨by have := List.drop_eq_nil_iff.1 h.1; omega, h.2⟩)])
              have h2w : ((at_ : Int) != (s.length : Int)) = true ∨ (((at_ : Int) != (s.length : Int)) = false ∧ Rk.right ⟨(C0 : Int), n, p, u, sv, ul, (MM : Int), (UU : Int), (C1 : Int), (C2 : Int) == 1⟩ = false) := by
                by_cases ha : at_ = s.length
                · refine .inr ⟨by simp; omega, ?_⟩
                  cases hq : Rk.right ⟨(C0 : Int), n, p, u, sv, ul, (MM : Int), (UU : Int), (C1 : Int), (C2 : Int) == 1⟩ with
                  | false => rfl
                  | true => exact absurd ⟨ha, hq⟩ hfin
                · exact .inl (by simp; omega)
              clear hfin hdq
              generalize Rk.right ⟨(C0 : Int), n, p, u, sv, ul, (MM : Int), (UU : Int), (C1 : Int), (C2 : Int) == 1⟩ = rb at hRt h2w
              rcases h2w with hne | ⟨hne, rfl⟩ <;>
                (go_wp2_with (go_at_call 15; refine hRt.mono ?_; rintro e wx ⟨rfl, hbx⟩; clear d0 d1 d2 d3 d4 d5 d6 d7 d8 d9; obtain ⟨-, ⟨o0, o1, o2, o3, o4, o5, o6, o7, o8, o9⟩, hfz, hlay⟩ := HOUT2.out wx hbx)
                 clear hfz o0 o1 o2 o3 o4 o5 o6 o7 o8 o9
                 obtain ⟨⟨z0, z1, z2, z3, z4, z5, z6, z7, z8, z9⟩, hbz⟩ := hlay noRec
                 change bodyPost Tryd.prog _ _ _ _ (recLay wx w.heap.size noRec)
                 refine bodyPost_ret (v := .tuple #[recV noRec, .int .i64 8]) ?_ rfl ⟨by rw [HN.out], hbz⟩
                 clear hbz
                 generalize recLay wx w.heap.size noRec = wz at z0 z1 z2 z3 z4 z5 z6 z7 z8 z9
                 simp [results, Tryd.results13, go_sem, z0, z1, z2, z3, z4, z5, z6, z7, z8, z9]
                 rfl)
end Go.Proofs.YtgbcbihfaiiolaaDoor
