/- What the document's Encode answers, for any record with a name and a parent of at most 2^30 bytes. -/
import Derived.Test.YtgbcbihfaiiolaaDoorRkI
namespace Go.Proofs.YtgbcbihfaiiolaaDoor
set_option maxRecDepth 8000
open Go.RowKit

/-- A region may be walked under a stronger condition from some point on. -/
theorem wpAnyH_strong {P : Program} {md : Region.Mode} {ops : Array Oper} {Q : Exit → Act → World → Prop} {S S' : World → Prop} (hS : ∀ w, S' w → S w) :
    ∀ {fuel : Nat} {listed : Array Bool} {a : Act} {w : World}, wpAnyH P md ops Q S' fuel listed a w → wpAnyH P md ops Q S fuel listed a w
  | 0, _, _, _, h => h
  | _ + 1, _, _, _, h => ⟨h.1, fun i hi => wpOp_mono (fun _ _ h' => ⟨hS _ h'.1, wpAnyH_strong hS h'.2⟩) (h.2 i hi)⟩
set_option maxHeartbeats 3200000 in
theorem refEncode13_any (r : Rk.R) (hn : r.name.length ≤ 1073741824) (hp : r.parent.length ≤ 1073741824) (w : World) :
    Calls Tryd.prog 11 #[recV r] w fun e w' => e = .returned (encV r) ∧ Below w.heap.size w w' := by
  have HC := recAt_alloc w r
  have hR := fun w' => refRight13_any r hn hp w'
  obtain ⟨wb, hwb⟩ : ∃ wb, wb = w.alloc (.cells (recCs r) 23) := ⟨_, rfl⟩
  have hbb : Below w.heap.size w wb := by rw [hwb]; exact (Below.refl _ _).alloc (Nat.le_refl _) _
  have hsz : wb.heap.size = w.heap.size + 1 := by rw [hwb]; simp
  rw [← hwb, ← hsz] at HC
  cases hr : Rk.right r with
  | false =>
    rw [hr] at hR
    have HF : Hid (encV r = .tuple #[.string ⟨#[]⟩, .int .i64 1]) := Lib.hid (by unfold encV; rw [hr]; rfl)
    generalize encV r = E at HF ⊢
    obtain ⟨kind, name, parent, user, service, url, made, used, uses, fresh⟩ := r
    unfold recCs at hwb
    unfold recV at hR ⊢
    dsimp only at hwb hR ⊢
    go_enter Tryd.func11, Tryd.ntmps11
    go_wp2_with fail
    rw [← hwb]
    refine (hR _).mono ?_
    rintro _ w1 ⟨rfl, hb1⟩
    go_wp2_with fail
    go_ret2
    exact ⟨by rw [HF.out]; rfl, hbb.trans (hb1.mono hbb.size)⟩
  | true =>
    have hok := (Rk.right_iff r).1 hr
    rw [hr] at hR
    have HF : Hid (encV r = .tuple #[.string (S (Rk.enc r)), .int .i64 0]) := Lib.hid (by unfold encV; rw [hr]; rfl)
    have hk := Rk.comes_kind hok.cm
    have hs0 := hok.s0
    have hs1 := hok.s1
    have hm0 := hok.m0
    have hmu := hok.mu
    have hut := hok.ut
    have hpl := hok.parent
    have hul := hok.us
    have hsl := hok.sv
    have hll := hok.ur
    have HEN : Hid (Rk.enc r = Rk.head r ++ Rk.be 8 r.made.toNat ++ Rk.be 8 r.used.toNat ++ Rk.txt r.parent ++ Rk.txt r.user ++ Rk.txt r.service ++ Rk.txt r.url) := Lib.hid rfl
    generalize encV r = E at HF ⊢
    obtain ⟨kind, name, parent, user, service, url, made, used, uses, fresh⟩ := r
    unfold recCs at hwb
    unfold recV at hR ⊢
    dsimp only at hwb hR hk hs0 hs1 hm0 hmu hut hn hp HEN hpl hul hsl hll ⊢
    clear hok hr
    obtain ⟨K, rfl⟩ := Int.eq_ofNat_of_zero_le (show 0 ≤ kind by omega)
    obtain ⟨M, rfl⟩ := Int.eq_ofNat_of_zero_le hm0
    obtain ⟨U, rfl⟩ := Int.eq_ofNat_of_zero_le (show 0 ≤ used by omega)
    obtain ⟨X, rfl⟩ := Int.eq_ofNat_of_zero_le hs0
    have hM := fun w' => refEight_any M (by omega) w'
    have hU := fun w' => refEight_any U (by omega) w'
    have h1 := fun w' => refText13_any parent (by omega) w'
    have h2 := fun w' => refText13_any user (by omega) w'
    have h3 := fun w' => refText13_any service (by omega) w'
    have h4 := fun w' => refText13_any url (by omega) w'
    rw [Int.toNat_natCast, Int.toNat_natCast] at HEN
    go_enter Tryd.func11, Tryd.ntmps11
    go_wp2_with fail
    rw [← hwb]
    refine (hR _).mono ?_
    rintro _ w1 ⟨rfl, hb1⟩
    obtain ⟨c0, c1, c2, c3, c4, c5, c6, c7, c8, c9⟩ := HC.out w1 hb1
    clear hwb
    obtain ⟨F, hF⟩ : ∃ F : Int, F = if fresh then 1 else 0 := ⟨_, rfl⟩
    obtain ⟨H, hH⟩ : ∃ H, H = Rk.head ⟨(K : Int), name, parent, user, service, url, (M : Int), (U : Int), (X : Int), fresh⟩ := ⟨_, rfl⟩
    have hHd : H = [UInt8.ofNat K, UInt8.ofNat X, if fresh then 1 else 0] := hH
    rw [← hH] at HEN
    have HCV : Hid (∀ wq w' : World, Below (wq.alloc (.cells #[.int .u8 (K : Int), .int .u8 (X : Int), .int .u8 F] 5)).heap.size (wq.alloc (.cells #[.int .u8 (K : Int), .int .u8 (X : Int), .int .u8 F] 5)) w' → (convert 38 9 (.slice (some ⟨wq.heap.size, 0, none⟩) 3 3)).run Tryd.prog w' = .ok (.string (S H)) w') := Lib.hid fun wq w' hb => by
      have hkb : B (UInt8.ofNat K) = .int .u8 (K : Int) := by unfold B; rw [UInt8.toNat_ofNat']; congr 2; omega
      have hxb : B (UInt8.ofNat X) = .int .u8 (X : Int) := by unfold B; rw [UInt8.toNat_ofNat']; congr 2; omega
      have hfb : B (if fresh then 1 else 0) = .int .u8 F := by rw [hF]; cases fresh <;> rfl
      have hr : Row wq.heap.size (wq.alloc (.cells #[.int .u8 (K : Int), .int .u8 (X : Int), .int .u8 F] 5)) (.slice (some ⟨wq.heap.size, 0, none⟩) 3 3) H := by
        subst hHd
        show World.ownsRow _ _ _ _ _ 3 [B (UInt8.ofNat K), B (UInt8.ofNat X), B (if fresh then 1 else 0)]
        rw [hkb, hxb, hfb]
        exact ⟨rfl, .inr ⟨wq.heap.size, 3, _, rfl, Nat.le_refl _, heap_alloc_new wq _, Nat.le_refl _, by unfold maxLen; omega, rfl, rfl⟩⟩
      exact row_string (own_below hr hb)
    have hcv0 : ∀ wq : World, (convert 38 9 (.slice (some ⟨wq.heap.size, 0, none⟩) 3 3)).run Tryd.prog (wq.alloc (.cells #[.int .u8 (K : Int), .int .u8 (X : Int), .int .u8 F] 5)) = .ok (.string (S H)) (wq.alloc (.cells #[.int .u8 (K : Int), .int .u8 (X : Int), .int .u8 F] 5)) := fun wq => HCV.out wq _ (Below.refl _ _)
    have hHl : H.length = 3 := by rw [hHd]; rfl
    have lM := Rk.be_len 8 M
    have lU := Rk.be_len 8 U
    have l1 : (Rk.txt parent).length = parent.length + 1 := by simp [Rk.txt]
    have l2 : (Rk.txt user).length = user.length + 1 := by simp [Rk.txt]
    have l3 : (Rk.txt service).length = service.length + 1 := by simp [Rk.txt]
    have l4 : (Rk.txt url).length = url.length + 1 := by simp [Rk.txt]
    generalize Rk.be 8 M = bM at hM lM HEN
    generalize Rk.be 8 U = bU at hU lU HEN
    generalize Rk.txt parent = t1 at h1 l1 HEN
    generalize Rk.txt user = t2 at h2 l2 HEN
    generalize Rk.txt service = t3 at h3 l3 HEN
    generalize Rk.txt url = t4 at h4 l4 HEN
    have a1 : ∀ w, (Op.stringOp .add (S H) (S bM)).run Tryd.prog w = .ok (.string (S (H ++ bM))) w := fun w => run_add_S w H bM (by omega)
    have m1 : (H ++ bM).length = 11 := by rw [List.length_append]; omega
    generalize H ++ bM = y1 at a1 m1 HEN
    have a2 : ∀ w, (Op.stringOp .add (S y1) (S bU)).run Tryd.prog w = .ok (.string (S (y1 ++ bU))) w := fun w => run_add_S w y1 bU (by omega)
    have m2 : (y1 ++ bU).length = 19 := by rw [List.length_append]; omega
    generalize y1 ++ bU = y2 at a2 m2 HEN
    have a3 : ∀ w, (Op.stringOp .add (S y2) (S t1)).run Tryd.prog w = .ok (.string (S (y2 ++ t1))) w := fun w => run_add_S w y2 t1 (by omega)
    have m3 : (y2 ++ t1).length ≤ 43 := by rw [List.length_append]; omega
    generalize y2 ++ t1 = y3 at a3 m3 HEN
    have a4 : ∀ w, (Op.stringOp .add (S y3) (S t2)).run Tryd.prog w = .ok (.string (S (y3 ++ t2))) w := fun w => run_add_S w y3 t2 (by omega)
    have m4 : (y3 ++ t2).length ≤ 76 := by rw [List.length_append]; omega
    generalize y3 ++ t2 = y4 at a4 m4 HEN
    have a5 : ∀ w, (Op.stringOp .add (S y4) (S t3)).run Tryd.prog w = .ok (.string (S (y4 ++ t3))) w := fun w => run_add_S w y4 t3 (by omega)
    have m5 : (y4 ++ t3).length ≤ 177 := by rw [List.length_append]; omega
    generalize y4 ++ t3 = y5 at a5 m5 HEN
    have a6 : ∀ w, (Op.stringOp .add (S y5) (S t4)).run Tryd.prog w = .ok (.string (S (y5 ++ t4))) w := fun w => run_add_S w y5 t4 (by omega)
    generalize y5 ++ t4 = y6 at a6 HEN
    rw [HEN.out] at HF
    clear HEN m1 m2 m3 m4 m5 lM lU l1 l2 l3 l4 hHl hHd hH
    have KS : Hid (∀ wx, Below w1.heap.size w1 wx → wx.cell? ⟨w.heap.size, 0, none⟩ = some (.int .i64 (K : Int)) ∧ wx.cell? ⟨w.heap.size, 8, none⟩ = some (.int .i64 (X : Int)) ∧ wx.cell? ⟨w.heap.size, 6, none⟩ = some (.int .i64 (M : Int)) ∧ wx.cell? ⟨w.heap.size, 7, none⟩ = some (.int .i64 (U : Int)) ∧ wx.cell? ⟨w.heap.size, 2, none⟩ = some (.string (S parent)) ∧ wx.cell? ⟨w.heap.size, 3, none⟩ = some (.string (S user)) ∧ wx.cell? ⟨w.heap.size, 4, none⟩ = some (.string (S service)) ∧ wx.cell? ⟨w.heap.size, 5, none⟩ = some (.string (S url)) ∧ Below w1.heap.size w1 wx) := Lib.hid fun w' hb => by
      obtain ⟨d0, d1, d2, d3, d4, d5, d6, d7, d8, d9⟩ := HC.out w' (hb1.trans (hb.mono hb1.size))
      exact ⟨d0, d8, d6, d7, d2, d3, d4, d5, hb⟩
    have HB1 := Lib.hid (hbb.trans (hb1.mono hbb.size))
    clear HC hbb hb1 hR hsz hn hp hpl hul hsl hll hut hmu hm0
    have hz : Below w1.heap.size w1 w1.drew := (Below.refl _ _).drew
    have hzD : Below w1.heap.size w1 ((w1.alloc (.cells #[.int .u8 (K : Int), .int .u8 (X : Int), .int .u8 F] 5)).drew) := ((Below.refl _ _).alloc (Nat.le_refl _) _).drew
    have HCVD : Hid (∀ w', Below ((w1.alloc (.cells #[.int .u8 (K : Int), .int .u8 (X : Int), .int .u8 F] 5)).drew).heap.size ((w1.alloc (.cells #[.int .u8 (K : Int), .int .u8 (X : Int), .int .u8 F] 5)).drew) w' → (convert 38 9 (.slice (some ⟨w1.heap.size, 0, none⟩) 3 3)).run Tryd.prog w' = .ok (.string (S H)) w') := Lib.hid fun w' hb => HCV.out w1.drew w' hb
    have kw : IntKind.u8.wrap (K : Int) = (K : Int) := IntWalk.u8_in _ (by omega)
    have xw : IntKind.u8.wrap (X : Int) = (X : Int) := IntWalk.u8_in _ (by omega)
    clear hcv0
    have HFF := Lib.hid hF
    clear hF
    go_upto_if 11 with fail
    go_cut [5] (fun t wx => t = .int .u8 F ∧ wx = w1)
    case first =>
      cases fresh with
      | true =>
        go_wp2_with fail
        go_meet
        exact ⟨by rw [HFF.out]; rfl, rfl⟩
      | false =>
        go_wp2_with fail
        go_meet
        exact ⟨by rw [HFF.out]; rfl, rfl⟩
    case rest =>
    obtain ⟨hx1, hx2⟩ := hcut
    subst hx1
    replace hx2 := hx2.symm
    subst hx2
    clear c0 c1 c2 c3 c4 c5 c6 c7 c8 c9
    go_upto_region 7 with fail
    -- THE REGION, by hand (tools/gen_rkj.py)
    refine wp_region_noPanic ?_
    refine wp_region_held_drew (S := fun wy => Below w1.heap.size w1 wy) (by kernel_rfl) hz (fun hHe0 => ?_)
    refine wpAnyH_take (i := 0) (oi := { dst := some 12, op := Op.fieldAddr 23 (Operand.tmp 1) 0, type := 0, pos := "ref.go:56", after := #[], guard := none }) (v := ?v1) rfl (by kernel_rfl) (by kernel_rfl) (by kernel_rfl) (fun _ _ _ h => h) (Or.inl ⟨by rfl, ?hy1⟩) hHe0 ?rest1
    case hy1 => (intro wy hSw; obtain ⟨k0, k8, k6, k7, k2, k3, k4, k5, -⟩ := KS.out _ hSw; go_simp; try (with_reducible rfl))
    try simp only [Act.put, List.setIfInBounds_toArray, List.set_cons_zero, List.set_cons_succ]
    refine wpAnyH_take (i := 1) (oi := { dst := some 13, op := Op.load 3 (Operand.tmp 12), type := 3, pos := "ref.go:56", after := #[{ on := 0, ground := Ground.data }], guard := none }) (v := ?v2) rfl (by kernel_rfl) (by kernel_rfl) (by kernel_rfl) (fun _ _ _ h => h) (Or.inl ⟨by rfl, ?hy2⟩) hHe0 ?rest2
    case hy2 => (intro wy hSw; obtain ⟨k0, k8, k6, k7, k2, k3, k4, k5, -⟩ := KS.out _ hSw; go_simp; try (with_reducible rfl))
    try simp only [Act.put, List.setIfInBounds_toArray, List.set_cons_zero, List.set_cons_succ]
    refine wpAnyH_take (i := 2) (oi := { dst := some 14, op := Op.convert 3 5 (Operand.tmp 13), type := 5, pos := "ref.go:56", after := #[{ on := 1, ground := Ground.data }], guard := none }) (v := ?v3) rfl (by kernel_rfl) (by kernel_rfl) (by kernel_rfl) (fun _ _ _ h => h) (Or.inl ⟨by rfl, ?hy3⟩) hHe0 ?rest3
    case hy3 => (intro wy hSw; obtain ⟨k0, k8, k6, k7, k2, k3, k4, k5, -⟩ := KS.out _ hSw; go_simp; try (with_reducible rfl))
    try simp only [Act.put, List.setIfInBounds_toArray, List.set_cons_zero, List.set_cons_succ]
    refine wpAnyH_take (i := 3) (oi := { dst := some 15, op := Op.fieldAddr 23 (Operand.tmp 1) 8, type := 0, pos := "ref.go:56", after := #[], guard := none }) (v := ?v4) rfl (by kernel_rfl) (by kernel_rfl) (by kernel_rfl) (fun _ _ _ h => h) (Or.inl ⟨by rfl, ?hy4⟩) hHe0 ?rest4
    case hy4 => (intro wy hSw; obtain ⟨k0, k8, k6, k7, k2, k3, k4, k5, -⟩ := KS.out _ hSw; go_simp; try (with_reducible rfl))
    try simp only [Act.put, List.setIfInBounds_toArray, List.set_cons_zero, List.set_cons_succ]
    refine wpAnyH_take (i := 4) (oi := { dst := some 16, op := Op.load 3 (Operand.tmp 15), type := 3, pos := "ref.go:56", after := #[{ on := 3, ground := Ground.data }], guard := none }) (v := ?v5) rfl (by kernel_rfl) (by kernel_rfl) (by kernel_rfl) (fun _ _ _ h => h) (Or.inl ⟨by rfl, ?hy5⟩) hHe0 ?rest5
    case hy5 => (intro wy hSw; obtain ⟨k0, k8, k6, k7, k2, k3, k4, k5, -⟩ := KS.out _ hSw; go_simp; try (with_reducible rfl))
    try simp only [Act.put, List.setIfInBounds_toArray, List.set_cons_zero, List.set_cons_succ]
    refine wpAnyH_take (i := 5) (oi := { dst := some 17, op := Op.convert 3 5 (Operand.tmp 16), type := 5, pos := "ref.go:56", after := #[{ on := 4, ground := Ground.data }], guard := none }) (v := ?v6) rfl (by kernel_rfl) (by kernel_rfl) (by kernel_rfl) (fun _ _ _ h => h) (Or.inl ⟨by rfl, ?hy6⟩) hHe0 ?rest6
    case hy6 => (intro wy hSw; obtain ⟨k0, k8, k6, k7, k2, k3, k4, k5, -⟩ := KS.out _ hSw; go_simp; try (with_reducible rfl))
    try simp only [Act.put, List.setIfInBounds_toArray, List.set_cons_zero, List.set_cons_succ]
    refine wpAnyH_take (i := 6) (oi := { dst := some 18, op := Op.move (Operand.tmp 5), type := 5, pos := "ref.go:56", after := #[], guard := none }) (v := ?v7) rfl (by kernel_rfl) (by kernel_rfl) (by kernel_rfl) (fun _ _ _ h => h) (Or.inl ⟨by rfl, ?hy7⟩) hHe0 ?rest7
    case hy7 => (intro wy hSw; obtain ⟨k0, k8, k6, k7, k2, k3, k4, k5, -⟩ := KS.out _ hSw; go_simp; try (with_reducible rfl))
    try simp only [Act.put, List.setIfInBounds_toArray, List.set_cons_zero, List.set_cons_succ]
    refine wpAnyH_take (i := 9) (oi := { dst := some 21, op := Op.fieldAddr 23 (Operand.tmp 1) 6, type := 0, pos := "ref.go:56", after := #[], guard := none }) (v := ?v8) rfl (by kernel_rfl) (by kernel_rfl) (by kernel_rfl) (fun _ _ _ h => h) (Or.inl ⟨by rfl, ?hy8⟩) hHe0 ?rest8
    case hy8 => (intro wy hSw; obtain ⟨k0, k8, k6, k7, k2, k3, k4, k5, -⟩ := KS.out _ hSw; go_simp; try (with_reducible rfl))
    try simp only [Act.put, List.setIfInBounds_toArray, List.set_cons_zero, List.set_cons_succ]
    refine wpAnyH_take (i := 10) (oi := { dst := some 22, op := Op.load 3 (Operand.tmp 21), type := 3, pos := "ref.go:56", after := #[{ on := 9, ground := Ground.data }], guard := none }) (v := ?v9) rfl (by kernel_rfl) (by kernel_rfl) (by kernel_rfl) (fun _ _ _ h => h) (Or.inl ⟨by rfl, ?hy9⟩) hHe0 ?rest9
    case hy9 => (intro wy hSw; obtain ⟨k0, k8, k6, k7, k2, k3, k4, k5, -⟩ := KS.out _ hSw; go_simp; try (with_reducible rfl))
    try simp only [Act.put, List.setIfInBounds_toArray, List.set_cons_zero, List.set_cons_succ]
    refine wpAnyH_take (i := 13) (oi := { dst := some 25, op := Op.fieldAddr 23 (Operand.tmp 1) 7, type := 0, pos := "ref.go:56", after := #[], guard := none }) (v := ?v10) rfl (by kernel_rfl) (by kernel_rfl) (by kernel_rfl) (fun _ _ _ h => h) (Or.inl ⟨by rfl, ?hy10⟩) hHe0 ?rest10
    case hy10 => (intro wy hSw; obtain ⟨k0, k8, k6, k7, k2, k3, k4, k5, -⟩ := KS.out _ hSw; go_simp; try (with_reducible rfl))
    try simp only [Act.put, List.setIfInBounds_toArray, List.set_cons_zero, List.set_cons_succ]
    refine wpAnyH_take (i := 14) (oi := { dst := some 26, op := Op.load 3 (Operand.tmp 25), type := 3, pos := "ref.go:56", after := #[{ on := 13, ground := Ground.data }], guard := none }) (v := ?v11) rfl (by kernel_rfl) (by kernel_rfl) (by kernel_rfl) (fun _ _ _ h => h) (Or.inl ⟨by rfl, ?hy11⟩) hHe0 ?rest11
    case hy11 => (intro wy hSw; obtain ⟨k0, k8, k6, k7, k2, k3, k4, k5, -⟩ := KS.out _ hSw; go_simp; try (with_reducible rfl))
    try simp only [Act.put, List.setIfInBounds_toArray, List.set_cons_zero, List.set_cons_succ]
    refine wpAnyH_take (i := 17) (oi := { dst := some 29, op := Op.fieldAddr 23 (Operand.tmp 1) 2, type := 0, pos := "ref.go:56", after := #[], guard := none }) (v := ?v12) rfl (by kernel_rfl) (by kernel_rfl) (by kernel_rfl) (fun _ _ _ h => h) (Or.inl ⟨by rfl, ?hy12⟩) hHe0 ?rest12
    case hy12 => (intro wy hSw; obtain ⟨k0, k8, k6, k7, k2, k3, k4, k5, -⟩ := KS.out _ hSw; go_simp; try (with_reducible rfl))
    try simp only [Act.put, List.setIfInBounds_toArray, List.set_cons_zero, List.set_cons_succ]
    refine wpAnyH_take (i := 18) (oi := { dst := some 30, op := Op.load 9 (Operand.tmp 29), type := 9, pos := "ref.go:56", after := #[{ on := 17, ground := Ground.data }], guard := none }) (v := ?v13) rfl (by kernel_rfl) (by kernel_rfl) (by kernel_rfl) (fun _ _ _ h => h) (Or.inl ⟨by rfl, ?hy13⟩) hHe0 ?rest13
    case hy13 => (intro wy hSw; obtain ⟨k0, k8, k6, k7, k2, k3, k4, k5, -⟩ := KS.out _ hSw; go_simp; try (with_reducible rfl))
    try simp only [Act.put, List.setIfInBounds_toArray, List.set_cons_zero, List.set_cons_succ]
    refine wpAnyH_take (i := 21) (oi := { dst := some 33, op := Op.fieldAddr 23 (Operand.tmp 1) 3, type := 0, pos := "ref.go:56", after := #[], guard := none }) (v := ?v14) rfl (by kernel_rfl) (by kernel_rfl) (by kernel_rfl) (fun _ _ _ h => h) (Or.inl ⟨by rfl, ?hy14⟩) hHe0 ?rest14
    case hy14 => (intro wy hSw; obtain ⟨k0, k8, k6, k7, k2, k3, k4, k5, -⟩ := KS.out _ hSw; go_simp; try (with_reducible rfl))
    try simp only [Act.put, List.setIfInBounds_toArray, List.set_cons_zero, List.set_cons_succ]
    refine wpAnyH_take (i := 22) (oi := { dst := some 34, op := Op.load 9 (Operand.tmp 33), type := 9, pos := "ref.go:56", after := #[{ on := 21, ground := Ground.data }], guard := none }) (v := ?v15) rfl (by kernel_rfl) (by kernel_rfl) (by kernel_rfl) (fun _ _ _ h => h) (Or.inl ⟨by rfl, ?hy15⟩) hHe0 ?rest15
    case hy15 => (intro wy hSw; obtain ⟨k0, k8, k6, k7, k2, k3, k4, k5, -⟩ := KS.out _ hSw; go_simp; try (with_reducible rfl))
    try simp only [Act.put, List.setIfInBounds_toArray, List.set_cons_zero, List.set_cons_succ]
    refine wpAnyH_take (i := 25) (oi := { dst := some 37, op := Op.fieldAddr 23 (Operand.tmp 1) 4, type := 0, pos := "ref.go:56", after := #[], guard := none }) (v := ?v16) rfl (by kernel_rfl) (by kernel_rfl) (by kernel_rfl) (fun _ _ _ h => h) (Or.inl ⟨by rfl, ?hy16⟩) hHe0 ?rest16
    case hy16 => (intro wy hSw; obtain ⟨k0, k8, k6, k7, k2, k3, k4, k5, -⟩ := KS.out _ hSw; go_simp; try (with_reducible rfl))
    try simp only [Act.put, List.setIfInBounds_toArray, List.set_cons_zero, List.set_cons_succ]
    refine wpAnyH_take (i := 26) (oi := { dst := some 38, op := Op.load 9 (Operand.tmp 37), type := 9, pos := "ref.go:56", after := #[{ on := 25, ground := Ground.data }], guard := none }) (v := ?v17) rfl (by kernel_rfl) (by kernel_rfl) (by kernel_rfl) (fun _ _ _ h => h) (Or.inl ⟨by rfl, ?hy17⟩) hHe0 ?rest17
    case hy17 => (intro wy hSw; obtain ⟨k0, k8, k6, k7, k2, k3, k4, k5, -⟩ := KS.out _ hSw; go_simp; try (with_reducible rfl))
    try simp only [Act.put, List.setIfInBounds_toArray, List.set_cons_zero, List.set_cons_succ]
    refine wpAnyH_take (i := 29) (oi := { dst := some 41, op := Op.fieldAddr 23 (Operand.tmp 1) 5, type := 0, pos := "ref.go:56", after := #[], guard := none }) (v := ?v18) rfl (by kernel_rfl) (by kernel_rfl) (by kernel_rfl) (fun _ _ _ h => h) (Or.inl ⟨by rfl, ?hy18⟩) hHe0 ?rest18
    case hy18 => (intro wy hSw; obtain ⟨k0, k8, k6, k7, k2, k3, k4, k5, -⟩ := KS.out _ hSw; go_simp; try (with_reducible rfl))
    try simp only [Act.put, List.setIfInBounds_toArray, List.set_cons_zero, List.set_cons_succ]
    refine wpAnyH_take (i := 30) (oi := { dst := some 42, op := Op.load 9 (Operand.tmp 41), type := 9, pos := "ref.go:56", after := #[{ on := 29, ground := Ground.data }], guard := none }) (v := ?v19) rfl (by kernel_rfl) (by kernel_rfl) (by kernel_rfl) (fun _ _ _ h => h) (Or.inl ⟨by rfl, ?hy19⟩) hHe0 ?rest19
    case hy19 => (intro wy hSw; obtain ⟨k0, k8, k6, k7, k2, k3, k4, k5, -⟩ := KS.out _ hSw; go_simp; try (with_reducible rfl))
    try simp only [Act.put, List.setIfInBounds_toArray, List.set_cons_zero, List.set_cons_succ]
    refine wpAnyH_ready (rs := [7, 11]) (by kernel_rfl) (by simp) ?_
    refine AllReadyH.cons (o := { dst := some 19, op := Op.buildSlice 38 3 #[(0, Operand.tmp 14), (1, Operand.tmp 17), (2, Operand.tmp 18)], type := 38, pos := "ref.go:56", after := #[{ on := 2, ground := Ground.data }, { on := 5, ground := Ground.data }, { on := 6, ground := Ground.data }], guard := none }) rfl (fun K hK => ?_) ?_
    · -- the bytes, behind 0 calls
      go_simp
      refine hK.out _ _ ?_ (fun hHb => ?_)
      · exact hzD
      clear hK K
      try simp only [Act.put, List.setIfInBounds_toArray, List.set_cons_zero, List.set_cons_succ]
      refine wpAnyH_strong (S' := fun wy => Below ((w1.alloc (.cells #[.int .u8 (K : Int), .int .u8 (X : Int), .int .u8 F] 5)).drew).heap.size ((w1.alloc (.cells #[.int .u8 (K : Int), .int .u8 (X : Int), .int .u8 F] 5)).drew) wy) (fun wy h => hHb.trans (h.mono hHb.size)) ?_
      have hHc : Below ((w1.alloc (.cells #[.int .u8 (K : Int), .int .u8 (X : Int), .int .u8 F] 5)).drew).heap.size ((w1.alloc (.cells #[.int .u8 (K : Int), .int .u8 (X : Int), .int .u8 F] 5)).drew) ((w1.alloc (.cells #[.int .u8 (K : Int), .int .u8 (X : Int), .int .u8 F] 5)).drew) := Below.refl _ _
      refine wpAnyH_take (i := 8) (oi := { dst := some 20, op := Op.convert 38 9 (Operand.tmp 19), type := 9, pos := "ref.go:56", after := #[{ on := 7, ground := Ground.data }], guard := none }) (v := ?v20) rfl (by kernel_rfl) (by kernel_rfl) (by kernel_rfl) (fun _ _ _ h => h) (Or.inl ⟨by rfl, ?hy20⟩) hHc ?rest20
      case hy20 => (intro wy hSw; have hcv := HCVD.out _ hSw; go_simp; try (with_reducible rfl))
      try simp only [Act.put, List.setIfInBounds_toArray, List.set_cons_zero, List.set_cons_succ]
      refine wpAnyH_ready (rs := [11]) (by kernel_rfl) (by simp) ?_
      refine AllReadyH.cons (o := { dst := some 23, op := Op.call { callee := Callee.value (Operand.func 20), args := #[Operand.tmp 22], argTypes := #[3] }, type := 9, pos := "ref.go:56", after := #[{ on := 10, ground := Ground.data }], guard := none }) rfl (fun K hK => ?_) AllReadyH.nil
      go_simp
      go_at_call 20
      (with_reducible refine (hM _).mono ?_)
      rintro _ wx1 ⟨rfl, hq⟩
      refine hK.out _ _ ?_ (fun hHd1 => ?_)
      · exact hHc.trans (hq.mono hHc.size)
      clear hK K hq
      try simp only [Act.put, List.setIfInBounds_toArray, List.set_cons_zero, List.set_cons_succ]
      refine wpAnyH_take (i := 12) (oi := { dst := some 24, op := Op.binOp BinOp.add 9 (Operand.tmp 20) (Operand.tmp 23) 9, type := 9, pos := "ref.go:56", after := #[{ on := 8, ground := Ground.data }, { on := 11, ground := Ground.data }], guard := none }) (v := ?v21) rfl (by kernel_rfl) (by kernel_rfl) (by kernel_rfl) (fun _ _ _ h => h) (Or.inl ⟨by rfl, ?hy21⟩) hHd1 ?rest21
      case hy21 => (intro wy hSw; go_simp; try (with_reducible rfl))
      try simp only [Act.put, List.setIfInBounds_toArray, List.set_cons_zero, List.set_cons_succ]
      refine wpAnyH_ready (rs := [15]) (by kernel_rfl) (by simp) ?_
      refine AllReadyH.cons (o := { dst := some 27, op := Op.call { callee := Callee.value (Operand.func 20), args := #[Operand.tmp 26], argTypes := #[3] }, type := 9, pos := "ref.go:56", after := #[{ on := 14, ground := Ground.data }, { on := 11, ground := Ground.chain }], guard := none }) rfl (fun K hK => ?_) AllReadyH.nil
      go_simp
      go_at_call 20
      (with_reducible refine (hU _).mono ?_)
      rintro _ wx2 ⟨rfl, hq⟩
      refine hK.out _ _ ?_ (fun hHd2 => ?_)
      · exact hHd1.trans (hq.mono hHd1.size)
      clear hK K hq
      try simp only [Act.put, List.setIfInBounds_toArray, List.set_cons_zero, List.set_cons_succ]
      refine wpAnyH_take (i := 16) (oi := { dst := some 28, op := Op.binOp BinOp.add 9 (Operand.tmp 24) (Operand.tmp 27) 9, type := 9, pos := "ref.go:56", after := #[{ on := 12, ground := Ground.data }, { on := 15, ground := Ground.data }], guard := none }) (v := ?v22) rfl (by kernel_rfl) (by kernel_rfl) (by kernel_rfl) (fun _ _ _ h => h) (Or.inl ⟨by rfl, ?hy22⟩) hHd2 ?rest22
      case hy22 => (intro wy hSw; go_simp; try (with_reducible rfl))
      try simp only [Act.put, List.setIfInBounds_toArray, List.set_cons_zero, List.set_cons_succ]
      refine wpAnyH_ready (rs := [19]) (by kernel_rfl) (by simp) ?_
      refine AllReadyH.cons (o := { dst := some 31, op := Op.call { callee := Callee.value (Operand.func 21), args := #[Operand.tmp 30], argTypes := #[9] }, type := 9, pos := "ref.go:56", after := #[{ on := 18, ground := Ground.data }, { on := 15, ground := Ground.chain }], guard := none }) rfl (fun K hK => ?_) AllReadyH.nil
      go_simp
      go_at_call 21
      (with_reducible refine (h1 _).mono ?_)
      rintro _ wx3 ⟨rfl, hq⟩
      refine hK.out _ _ ?_ (fun hHd3 => ?_)
      · exact hHd2.trans (hq.mono hHd2.size)
      clear hK K hq
      try simp only [Act.put, List.setIfInBounds_toArray, List.set_cons_zero, List.set_cons_succ]
      refine wpAnyH_take (i := 20) (oi := { dst := some 32, op := Op.binOp BinOp.add 9 (Operand.tmp 28) (Operand.tmp 31) 9, type := 9, pos := "ref.go:56", after := #[{ on := 16, ground := Ground.data }, { on := 19, ground := Ground.data }], guard := none }) (v := ?v23) rfl (by kernel_rfl) (by kernel_rfl) (by kernel_rfl) (fun _ _ _ h => h) (Or.inl ⟨by rfl, ?hy23⟩) hHd3 ?rest23
      case hy23 => (intro wy hSw; go_simp; try (with_reducible rfl))
      try simp only [Act.put, List.setIfInBounds_toArray, List.set_cons_zero, List.set_cons_succ]
      refine wpAnyH_ready (rs := [23]) (by kernel_rfl) (by simp) ?_
      refine AllReadyH.cons (o := { dst := some 35, op := Op.call { callee := Callee.value (Operand.func 21), args := #[Operand.tmp 34], argTypes := #[9] }, type := 9, pos := "ref.go:56", after := #[{ on := 22, ground := Ground.data }, { on := 19, ground := Ground.chain }], guard := none }) rfl (fun K hK => ?_) AllReadyH.nil
      go_simp
      go_at_call 21
      (with_reducible refine (h2 _).mono ?_)
      rintro _ wx4 ⟨rfl, hq⟩
      refine hK.out _ _ ?_ (fun hHd4 => ?_)
      · exact hHd3.trans (hq.mono hHd3.size)
      clear hK K hq
      try simp only [Act.put, List.setIfInBounds_toArray, List.set_cons_zero, List.set_cons_succ]
      refine wpAnyH_take (i := 24) (oi := { dst := some 36, op := Op.binOp BinOp.add 9 (Operand.tmp 32) (Operand.tmp 35) 9, type := 9, pos := "ref.go:56", after := #[{ on := 20, ground := Ground.data }, { on := 23, ground := Ground.data }], guard := none }) (v := ?v24) rfl (by kernel_rfl) (by kernel_rfl) (by kernel_rfl) (fun _ _ _ h => h) (Or.inl ⟨by rfl, ?hy24⟩) hHd4 ?rest24
      case hy24 => (intro wy hSw; go_simp; try (with_reducible rfl))
      try simp only [Act.put, List.setIfInBounds_toArray, List.set_cons_zero, List.set_cons_succ]
      refine wpAnyH_ready (rs := [27]) (by kernel_rfl) (by simp) ?_
      refine AllReadyH.cons (o := { dst := some 39, op := Op.call { callee := Callee.value (Operand.func 21), args := #[Operand.tmp 38], argTypes := #[9] }, type := 9, pos := "ref.go:56", after := #[{ on := 26, ground := Ground.data }, { on := 23, ground := Ground.chain }], guard := none }) rfl (fun K hK => ?_) AllReadyH.nil
      go_simp
      go_at_call 21
      (with_reducible refine (h3 _).mono ?_)
      rintro _ wx5 ⟨rfl, hq⟩
      refine hK.out _ _ ?_ (fun hHd5 => ?_)
      · exact hHd4.trans (hq.mono hHd4.size)
      clear hK K hq
      try simp only [Act.put, List.setIfInBounds_toArray, List.set_cons_zero, List.set_cons_succ]
      refine wpAnyH_take (i := 28) (oi := { dst := some 40, op := Op.binOp BinOp.add 9 (Operand.tmp 36) (Operand.tmp 39) 9, type := 9, pos := "ref.go:56", after := #[{ on := 24, ground := Ground.data }, { on := 27, ground := Ground.data }], guard := none }) (v := ?v25) rfl (by kernel_rfl) (by kernel_rfl) (by kernel_rfl) (fun _ _ _ h => h) (Or.inl ⟨by rfl, ?hy25⟩) hHd5 ?rest25
      case hy25 => (intro wy hSw; go_simp; try (with_reducible rfl))
      try simp only [Act.put, List.setIfInBounds_toArray, List.set_cons_zero, List.set_cons_succ]
      refine wpAnyH_ready (rs := [31]) (by kernel_rfl) (by simp) ?_
      refine AllReadyH.cons (o := { dst := some 43, op := Op.call { callee := Callee.value (Operand.func 21), args := #[Operand.tmp 42], argTypes := #[9] }, type := 9, pos := "ref.go:56", after := #[{ on := 30, ground := Ground.data }, { on := 27, ground := Ground.chain }], guard := none }) rfl (fun K hK => ?_) AllReadyH.nil
      go_simp
      go_at_call 21
      (with_reducible refine (h4 _).mono ?_)
      rintro _ wx6 ⟨rfl, hq⟩
      refine hK.out _ _ ?_ (fun hHd6 => ?_)
      · exact hHd5.trans (hq.mono hHd5.size)
      clear hK K hq
      try simp only [Act.put, List.setIfInBounds_toArray, List.set_cons_zero, List.set_cons_succ]
      refine wpAnyH_take (i := 32) (oi := { dst := some 44, op := Op.binOp BinOp.add 9 (Operand.tmp 40) (Operand.tmp 43) 9, type := 9, pos := "ref.go:56", after := #[{ on := 28, ground := Ground.data }, { on := 31, ground := Ground.data }], guard := none }) (v := ?v26) rfl (by kernel_rfl) (by kernel_rfl) (by kernel_rfl) (fun _ _ _ h => h) (Or.inl ⟨by rfl, ?hy26⟩) hHd6 ?rest26
      case hy26 => (intro wy hSw; go_simp; try (with_reducible rfl))
      try simp only [Act.put, List.setIfInBounds_toArray, List.set_cons_zero, List.set_cons_succ]
      refine wpAnyH_take (i := 33) (oi := { dst := some 2, op := Op.assign (Operand.tmp 44), type := 9, pos := "ref.go:56", after := #[{ on := 32, ground := Ground.data }, { on := 31, ground := Ground.chain }, { on := 0, ground := Ground.phase }, { on := 1, ground := Ground.phase }, { on := 2, ground := Ground.phase }, { on := 3, ground := Ground.phase }, { on := 4, ground := Ground.phase }, { on := 5, ground := Ground.phase }, { on := 6, ground := Ground.phase }, { on := 7, ground := Ground.phase }, { on := 8, ground := Ground.phase }, { on := 9, ground := Ground.phase }, { on := 10, ground := Ground.phase }, { on := 11, ground := Ground.phase }, { on := 12, ground := Ground.phase }, { on := 13, ground := Ground.phase }, { on := 14, ground := Ground.phase }, { on := 15, ground := Ground.phase }, { on := 16, ground := Ground.phase }, { on := 17, ground := Ground.phase }, { on := 18, ground := Ground.phase }, { on := 19, ground := Ground.phase }, { on := 20, ground := Ground.phase }, { on := 21, ground := Ground.phase }, { on := 22, ground := Ground.phase }, { on := 23, ground := Ground.phase }, { on := 24, ground := Ground.phase }, { on := 25, ground := Ground.phase }, { on := 26, ground := Ground.phase }, { on := 27, ground := Ground.phase }, { on := 28, ground := Ground.phase }, { on := 29, ground := Ground.phase }, { on := 30, ground := Ground.phase }, { on := 31, ground := Ground.phase }, { on := 32, ground := Ground.phase }], guard := none }) (v := ?v27) rfl (by kernel_rfl) (by kernel_rfl) (by kernel_rfl) (fun _ _ _ h => h) (Or.inl ⟨by rfl, ?hy27⟩) hHd6 ?rest27
      case hy27 => (intro wy hSw; go_simp; try (with_reducible rfl))
      try simp only [Act.put, List.setIfInBounds_toArray, List.set_cons_zero, List.set_cons_succ]
      refine wpAnyH_take (i := 34) (oi := { dst := some 3, op := Op.assign (Operand.const (Value.int IntKind.i64 0)), type := 26, pos := "ref.go:56", after := #[{ on := 33, ground := Ground.chain }, { on := 0, ground := Ground.phase }, { on := 1, ground := Ground.phase }, { on := 2, ground := Ground.phase }, { on := 3, ground := Ground.phase }, { on := 4, ground := Ground.phase }, { on := 5, ground := Ground.phase }, { on := 6, ground := Ground.phase }, { on := 7, ground := Ground.phase }, { on := 8, ground := Ground.phase }, { on := 9, ground := Ground.phase }, { on := 10, ground := Ground.phase }, { on := 11, ground := Ground.phase }, { on := 12, ground := Ground.phase }, { on := 13, ground := Ground.phase }, { on := 14, ground := Ground.phase }, { on := 15, ground := Ground.phase }, { on := 16, ground := Ground.phase }, { on := 17, ground := Ground.phase }, { on := 18, ground := Ground.phase }, { on := 19, ground := Ground.phase }, { on := 20, ground := Ground.phase }, { on := 21, ground := Ground.phase }, { on := 22, ground := Ground.phase }, { on := 23, ground := Ground.phase }, { on := 24, ground := Ground.phase }, { on := 25, ground := Ground.phase }, { on := 26, ground := Ground.phase }, { on := 27, ground := Ground.phase }, { on := 28, ground := Ground.phase }, { on := 29, ground := Ground.phase }, { on := 30, ground := Ground.phase }, { on := 31, ground := Ground.phase }, { on := 32, ground := Ground.phase }, { on := 33, ground := Ground.phase }], guard := none }) (v := ?v28) rfl (by kernel_rfl) (by kernel_rfl) (by kernel_rfl) (fun _ _ _ h => h) (Or.inl ⟨by rfl, ?hy28⟩) hHd6 ?rest28
      case hy28 => (intro wy hSw; go_simp; try (with_reducible rfl))
      try simp only [Act.put, List.setIfInBounds_toArray, List.set_cons_zero, List.set_cons_succ]
      refine wpAnyH_done (by kernel_rfl) ?_ _
      refine NoPanic.normal ?_
      have HZ := Lib.hid (HB1.out.trans ((hHb.trans (hHd6.mono hHb.size)).mono HB1.out.size))
      go_wp2_with fail
      go_ret2
      rw [HF.out]
      exact ⟨rfl, HZ.out⟩
    refine AllReadyH.cons (o := { dst := some 23, op := Op.call { callee := Callee.value (Operand.func 20), args := #[Operand.tmp 22], argTypes := #[3] }, type := 9, pos := "ref.go:56", after := #[{ on := 10, ground := Ground.data }], guard := none }) rfl (fun K hK => ?_) AllReadyH.nil
    go_simp
    go_at_call 20
    (with_reducible refine (hM _).mono ?_)
    rintro _ wx1 ⟨rfl, hq⟩
    refine hK.out _ _ ?_ (fun hHe1 => ?_)
    · exact hHe0.trans (hq.mono hHe0.size)
    clear hK K hq
    try simp only [Act.put, List.setIfInBounds_toArray, List.set_cons_zero, List.set_cons_succ]
    refine wpAnyH_ready (rs := [7, 15]) (by kernel_rfl) (by simp) ?_
    refine AllReadyH.cons (o := { dst := some 19, op := Op.buildSlice 38 3 #[(0, Operand.tmp 14), (1, Operand.tmp 17), (2, Operand.tmp 18)], type := 38, pos := "ref.go:56", after := #[{ on := 2, ground := Ground.data }, { on := 5, ground := Ground.data }, { on := 6, ground := Ground.data }], guard := none }) rfl (fun K hK => ?_) ?_
    · -- the bytes, behind 1 calls
      go_simp
      refine hK.out _ _ ?_ (fun hHb => ?_)
      · exact hHe1.alloc hHe1.size _
      clear hK K
      try simp only [Act.put, List.setIfInBounds_toArray, List.set_cons_zero, List.set_cons_succ]
      refine wpAnyH_strong (S' := fun wy => Below (wx1.alloc (.cells #[.int .u8 (K : Int), .int .u8 (X : Int), .int .u8 F] 5)).heap.size (wx1.alloc (.cells #[.int .u8 (K : Int), .int .u8 (X : Int), .int .u8 F] 5)) wy) (fun wy h => hHb.trans (h.mono hHb.size)) ?_
      have hHc : Below (wx1.alloc (.cells #[.int .u8 (K : Int), .int .u8 (X : Int), .int .u8 F] 5)).heap.size (wx1.alloc (.cells #[.int .u8 (K : Int), .int .u8 (X : Int), .int .u8 F] 5)) (wx1.alloc (.cells #[.int .u8 (K : Int), .int .u8 (X : Int), .int .u8 F] 5)) := Below.refl _ _
      refine wpAnyH_take (i := 8) (oi := { dst := some 20, op := Op.convert 38 9 (Operand.tmp 19), type := 9, pos := "ref.go:56", after := #[{ on := 7, ground := Ground.data }], guard := none }) (v := ?v29) rfl (by kernel_rfl) (by kernel_rfl) (by kernel_rfl) (fun _ _ _ h => h) (Or.inl ⟨by rfl, ?hy29⟩) hHc ?rest29
      case hy29 => (intro wy hSw; have hcv := HCV.out wx1 _ hSw; go_simp; try (with_reducible rfl))
      try simp only [Act.put, List.setIfInBounds_toArray, List.set_cons_zero, List.set_cons_succ]
      refine wpAnyH_take (i := 12) (oi := { dst := some 24, op := Op.binOp BinOp.add 9 (Operand.tmp 20) (Operand.tmp 23) 9, type := 9, pos := "ref.go:56", after := #[{ on := 8, ground := Ground.data }, { on := 11, ground := Ground.data }], guard := none }) (v := ?v30) rfl (by kernel_rfl) (by kernel_rfl) (by kernel_rfl) (fun _ _ _ h => h) (Or.inl ⟨by rfl, ?hy30⟩) hHc ?rest30
      case hy30 => (intro wy hSw; go_simp; try (with_reducible rfl))
      try simp only [Act.put, List.setIfInBounds_toArray, List.set_cons_zero, List.set_cons_succ]
      refine wpAnyH_ready (rs := [15]) (by kernel_rfl) (by simp) ?_
      refine AllReadyH.cons (o := { dst := some 27, op := Op.call { callee := Callee.value (Operand.func 20), args := #[Operand.tmp 26], argTypes := #[3] }, type := 9, pos := "ref.go:56", after := #[{ on := 14, ground := Ground.data }, { on := 11, ground := Ground.chain }], guard := none }) rfl (fun K hK => ?_) AllReadyH.nil
      go_simp
      go_at_call 20
      (with_reducible refine (hU _).mono ?_)
      rintro _ wx2 ⟨rfl, hq⟩
      refine hK.out _ _ ?_ (fun hHd2 => ?_)
      · exact hHc.trans (hq.mono hHc.size)
      clear hK K hq
      try simp only [Act.put, List.setIfInBounds_toArray, List.set_cons_zero, List.set_cons_succ]
      refine wpAnyH_take (i := 16) (oi := { dst := some 28, op := Op.binOp BinOp.add 9 (Operand.tmp 24) (Operand.tmp 27) 9, type := 9, pos := "ref.go:56", after := #[{ on := 12, ground := Ground.data }, { on := 15, ground := Ground.data }], guard := none }) (v := ?v31) rfl (by kernel_rfl) (by kernel_rfl) (by kernel_rfl) (fun _ _ _ h => h) (Or.inl ⟨by rfl, ?hy31⟩) hHd2 ?rest31
      case hy31 => (intro wy hSw; go_simp; try (with_reducible rfl))
      try simp only [Act.put, List.setIfInBounds_toArray, List.set_cons_zero, List.set_cons_succ]
      refine wpAnyH_ready (rs := [19]) (by kernel_rfl) (by simp) ?_
      refine AllReadyH.cons (o := { dst := some 31, op := Op.call { callee := Callee.value (Operand.func 21), args := #[Operand.tmp 30], argTypes := #[9] }, type := 9, pos := "ref.go:56", after := #[{ on := 18, ground := Ground.data }, { on := 15, ground := Ground.chain }], guard := none }) rfl (fun K hK => ?_) AllReadyH.nil
      go_simp
      go_at_call 21
      (with_reducible refine (h1 _).mono ?_)
      rintro _ wx3 ⟨rfl, hq⟩
      refine hK.out _ _ ?_ (fun hHd3 => ?_)
      · exact hHd2.trans (hq.mono hHd2.size)
      clear hK K hq
      try simp only [Act.put, List.setIfInBounds_toArray, List.set_cons_zero, List.set_cons_succ]
      refine wpAnyH_take (i := 20) (oi := { dst := some 32, op := Op.binOp BinOp.add 9 (Operand.tmp 28) (Operand.tmp 31) 9, type := 9, pos := "ref.go:56", after := #[{ on := 16, ground := Ground.data }, { on := 19, ground := Ground.data }], guard := none }) (v := ?v32) rfl (by kernel_rfl) (by kernel_rfl) (by kernel_rfl) (fun _ _ _ h => h) (Or.inl ⟨by rfl, ?hy32⟩) hHd3 ?rest32
      case hy32 => (intro wy hSw; go_simp; try (with_reducible rfl))
      try simp only [Act.put, List.setIfInBounds_toArray, List.set_cons_zero, List.set_cons_succ]
      refine wpAnyH_ready (rs := [23]) (by kernel_rfl) (by simp) ?_
      refine AllReadyH.cons (o := { dst := some 35, op := Op.call { callee := Callee.value (Operand.func 21), args := #[Operand.tmp 34], argTypes := #[9] }, type := 9, pos := "ref.go:56", after := #[{ on := 22, ground := Ground.data }, { on := 19, ground := Ground.chain }], guard := none }) rfl (fun K hK => ?_) AllReadyH.nil
      go_simp
      go_at_call 21
      (with_reducible refine (h2 _).mono ?_)
      rintro _ wx4 ⟨rfl, hq⟩
      refine hK.out _ _ ?_ (fun hHd4 => ?_)
      · exact hHd3.trans (hq.mono hHd3.size)
      clear hK K hq
      try simp only [Act.put, List.setIfInBounds_toArray, List.set_cons_zero, List.set_cons_succ]
      refine wpAnyH_take (i := 24) (oi := { dst := some 36, op := Op.binOp BinOp.add 9 (Operand.tmp 32) (Operand.tmp 35) 9, type := 9, pos := "ref.go:56", after := #[{ on := 20, ground := Ground.data }, { on := 23, ground := Ground.data }], guard := none }) (v := ?v33) rfl (by kernel_rfl) (by kernel_rfl) (by kernel_rfl) (fun _ _ _ h => h) (Or.inl ⟨by rfl, ?hy33⟩) hHd4 ?rest33
      case hy33 => (intro wy hSw; go_simp; try (with_reducible rfl))
      try simp only [Act.put, List.setIfInBounds_toArray, List.set_cons_zero, List.set_cons_succ]
      refine wpAnyH_ready (rs := [27]) (by kernel_rfl) (by simp) ?_
      refine AllReadyH.cons (o := { dst := some 39, op := Op.call { callee := Callee.value (Operand.func 21), args := #[Operand.tmp 38], argTypes := #[9] }, type := 9, pos := "ref.go:56", after := #[{ on := 26, ground := Ground.data }, { on := 23, ground := Ground.chain }], guard := none }) rfl (fun K hK => ?_) AllReadyH.nil
      go_simp
      go_at_call 21
      (with_reducible refine (h3 _).mono ?_)
      rintro _ wx5 ⟨rfl, hq⟩
      refine hK.out _ _ ?_ (fun hHd5 => ?_)
      · exact hHd4.trans (hq.mono hHd4.size)
      clear hK K hq
      try simp only [Act.put, List.setIfInBounds_toArray, List.set_cons_zero, List.set_cons_succ]
      refine wpAnyH_take (i := 28) (oi := { dst := some 40, op := Op.binOp BinOp.add 9 (Operand.tmp 36) (Operand.tmp 39) 9, type := 9, pos := "ref.go:56", after := #[{ on := 24, ground := Ground.data }, { on := 27, ground := Ground.data }], guard := none }) (v := ?v34) rfl (by kernel_rfl) (by kernel_rfl) (by kernel_rfl) (fun _ _ _ h => h) (Or.inl ⟨by rfl, ?hy34⟩) hHd5 ?rest34
      case hy34 => (intro wy hSw; go_simp; try (with_reducible rfl))
      try simp only [Act.put, List.setIfInBounds_toArray, List.set_cons_zero, List.set_cons_succ]
      refine wpAnyH_ready (rs := [31]) (by kernel_rfl) (by simp) ?_
      refine AllReadyH.cons (o := { dst := some 43, op := Op.call { callee := Callee.value (Operand.func 21), args := #[Operand.tmp 42], argTypes := #[9] }, type := 9, pos := "ref.go:56", after := #[{ on := 30, ground := Ground.data }, { on := 27, ground := Ground.chain }], guard := none }) rfl (fun K hK => ?_) AllReadyH.nil
      go_simp
      go_at_call 21
      (with_reducible refine (h4 _).mono ?_)
      rintro _ wx6 ⟨rfl, hq⟩
      refine hK.out _ _ ?_ (fun hHd6 => ?_)
      · exact hHd5.trans (hq.mono hHd5.size)
      clear hK K hq
      try simp only [Act.put, List.setIfInBounds_toArray, List.set_cons_zero, List.set_cons_succ]
      refine wpAnyH_take (i := 32) (oi := { dst := some 44, op := Op.binOp BinOp.add 9 (Operand.tmp 40) (Operand.tmp 43) 9, type := 9, pos := "ref.go:56", after := #[{ on := 28, ground := Ground.data }, { on := 31, ground := Ground.data }], guard := none }) (v := ?v35) rfl (by kernel_rfl) (by kernel_rfl) (by kernel_rfl) (fun _ _ _ h => h) (Or.inl ⟨by rfl, ?hy35⟩) hHd6 ?rest35
      case hy35 => (intro wy hSw; go_simp; try (with_reducible rfl))
      try simp only [Act.put, List.setIfInBounds_toArray, List.set_cons_zero, List.set_cons_succ]
      refine wpAnyH_take (i := 33) (oi := { dst := some 2, op := Op.assign (Operand.tmp 44), type := 9, pos := "ref.go:56", after := #[{ on := 32, ground := Ground.data }, { on := 31, ground := Ground.chain }, { on := 0, ground := Ground.phase }, { on := 1, ground := Ground.phase }, { on := 2, ground := Ground.phase }, { on := 3, ground := Ground.phase }, { on := 4, ground := Ground.phase }, { on := 5, ground := Ground.phase }, { on := 6, ground := Ground.phase }, { on := 7, ground := Ground.phase }, { on := 8, ground := Ground.phase }, { on := 9, ground := Ground.phase }, { on := 10, ground := Ground.phase }, { on := 11, ground := Ground.phase }, { on := 12, ground := Ground.phase }, { on := 13, ground := Ground.phase }, { on := 14, ground := Ground.phase }, { on := 15, ground := Ground.phase }, { on := 16, ground := Ground.phase }, { on := 17, ground := Ground.phase }, { on := 18, ground := Ground.phase }, { on := 19, ground := Ground.phase }, { on := 20, ground := Ground.phase }, { on := 21, ground := Ground.phase }, { on := 22, ground := Ground.phase }, { on := 23, ground := Ground.phase }, { on := 24, ground := Ground.phase }, { on := 25, ground := Ground.phase }, { on := 26, ground := Ground.phase }, { on := 27, ground := Ground.phase }, { on := 28, ground := Ground.phase }, { on := 29, ground := Ground.phase }, { on := 30, ground := Ground.phase }, { on := 31, ground := Ground.phase }, { on := 32, ground := Ground.phase }], guard := none }) (v := ?v36) rfl (by kernel_rfl) (by kernel_rfl) (by kernel_rfl) (fun _ _ _ h => h) (Or.inl ⟨by rfl, ?hy36⟩) hHd6 ?rest36
      case hy36 => (intro wy hSw; go_simp; try (with_reducible rfl))
      try simp only [Act.put, List.setIfInBounds_toArray, List.set_cons_zero, List.set_cons_succ]
      refine wpAnyH_take (i := 34) (oi := { dst := some 3, op := Op.assign (Operand.const (Value.int IntKind.i64 0)), type := 26, pos := "ref.go:56", after := #[{ on := 33, ground := Ground.chain }, { on := 0, ground := Ground.phase }, { on := 1, ground := Ground.phase }, { on := 2, ground := Ground.phase }, { on := 3, ground := Ground.phase }, { on := 4, ground := Ground.phase }, { on := 5, ground := Ground.phase }, { on := 6, ground := Ground.phase }, { on := 7, ground := Ground.phase }, { on := 8, ground := Ground.phase }, { on := 9, ground := Ground.phase }, { on := 10, ground := Ground.phase }, { on := 11, ground := Ground.phase }, { on := 12, ground := Ground.phase }, { on := 13, ground := Ground.phase }, { on := 14, ground := Ground.phase }, { on := 15, ground := Ground.phase }, { on := 16, ground := Ground.phase }, { on := 17, ground := Ground.phase }, { on := 18, ground := Ground.phase }, { on := 19, ground := Ground.phase }, { on := 20, ground := Ground.phase }, { on := 21, ground := Ground.phase }, { on := 22, ground := Ground.phase }, { on := 23, ground := Ground.phase }, { on := 24, ground := Ground.phase }, { on := 25, ground := Ground.phase }, { on := 26, ground := Ground.phase }, { on := 27, ground := Ground.phase }, { on := 28, ground := Ground.phase }, { on := 29, ground := Ground.phase }, { on := 30, ground := Ground.phase }, { on := 31, ground := Ground.phase }, { on := 32, ground := Ground.phase }, { on := 33, ground := Ground.phase }], guard := none }) (v := ?v37) rfl (by kernel_rfl) (by kernel_rfl) (by kernel_rfl) (fun _ _ _ h => h) (Or.inl ⟨by rfl, ?hy37⟩) hHd6 ?rest37
      case hy37 => (intro wy hSw; go_simp; try (with_reducible rfl))
      try simp only [Act.put, List.setIfInBounds_toArray, List.set_cons_zero, List.set_cons_succ]
      refine wpAnyH_done (by kernel_rfl) ?_ _
      refine NoPanic.normal ?_
      have HZ := Lib.hid (HB1.out.trans ((hHb.trans (hHd6.mono hHb.size)).mono HB1.out.size))
      go_wp2_with fail
      go_ret2
      rw [HF.out]
      exact ⟨rfl, HZ.out⟩
    refine AllReadyH.cons (o := { dst := some 27, op := Op.call { callee := Callee.value (Operand.func 20), args := #[Operand.tmp 26], argTypes := #[3] }, type := 9, pos := "ref.go:56", after := #[{ on := 14, ground := Ground.data }, { on := 11, ground := Ground.chain }], guard := none }) rfl (fun K hK => ?_) AllReadyH.nil
    go_simp
    go_at_call 20
    (with_reducible refine (hU _).mono ?_)
    rintro _ wx2 ⟨rfl, hq⟩
    refine hK.out _ _ ?_ (fun hHe2 => ?_)
    · exact hHe1.trans (hq.mono hHe1.size)
    clear hK K hq
    try simp only [Act.put, List.setIfInBounds_toArray, List.set_cons_zero, List.set_cons_succ]
    refine wpAnyH_ready (rs := [7, 19]) (by kernel_rfl) (by simp) ?_
    refine AllReadyH.cons (o := { dst := some 19, op := Op.buildSlice 38 3 #[(0, Operand.tmp 14), (1, Operand.tmp 17), (2, Operand.tmp 18)], type := 38, pos := "ref.go:56", after := #[{ on := 2, ground := Ground.data }, { on := 5, ground := Ground.data }, { on := 6, ground := Ground.data }], guard := none }) rfl (fun K hK => ?_) ?_
    · -- the bytes, behind 2 calls
      go_simp
      refine hK.out _ _ ?_ (fun hHb => ?_)
      · exact hHe2.alloc hHe2.size _
      clear hK K
      try simp only [Act.put, List.setIfInBounds_toArray, List.set_cons_zero, List.set_cons_succ]
      refine wpAnyH_strong (S' := fun wy => Below (wx2.alloc (.cells #[.int .u8 (K : Int), .int .u8 (X : Int), .int .u8 F] 5)).heap.size (wx2.alloc (.cells #[.int .u8 (K : Int), .int .u8 (X : Int), .int .u8 F] 5)) wy) (fun wy h => hHb.trans (h.mono hHb.size)) ?_
      have hHc : Below (wx2.alloc (.cells #[.int .u8 (K : Int), .int .u8 (X : Int), .int .u8 F] 5)).heap.size (wx2.alloc (.cells #[.int .u8 (K : Int), .int .u8 (X : Int), .int .u8 F] 5)) (wx2.alloc (.cells #[.int .u8 (K : Int), .int .u8 (X : Int), .int .u8 F] 5)) := Below.refl _ _
      refine wpAnyH_take (i := 8) (oi := { dst := some 20, op := Op.convert 38 9 (Operand.tmp 19), type := 9, pos := "ref.go:56", after := #[{ on := 7, ground := Ground.data }], guard := none }) (v := ?v38) rfl (by kernel_rfl) (by kernel_rfl) (by kernel_rfl) (fun _ _ _ h => h) (Or.inl ⟨by rfl, ?hy38⟩) hHc ?rest38
      case hy38 => (intro wy hSw; have hcv := HCV.out wx2 _ hSw; go_simp; try (with_reducible rfl))
      try simp only [Act.put, List.setIfInBounds_toArray, List.set_cons_zero, List.set_cons_succ]
      refine wpAnyH_take (i := 12) (oi := { dst := some 24, op := Op.binOp BinOp.add 9 (Operand.tmp 20) (Operand.tmp 23) 9, type := 9, pos := "ref.go:56", after := #[{ on := 8, ground := Ground.data }, { on := 11, ground := Ground.data }], guard := none }) (v := ?v39) rfl (by kernel_rfl) (by kernel_rfl) (by kernel_rfl) (fun _ _ _ h => h) (Or.inl ⟨by rfl, ?hy39⟩) hHc ?rest39
      case hy39 => (intro wy hSw; go_simp; try (with_reducible rfl))
      try simp only [Act.put, List.setIfInBounds_toArray, List.set_cons_zero, List.set_cons_succ]
      refine wpAnyH_take (i := 16) (oi := { dst := some 28, op := Op.binOp BinOp.add 9 (Operand.tmp 24) (Operand.tmp 27) 9, type := 9, pos := "ref.go:56", after := #[{ on := 12, ground := Ground.data }, { on := 15, ground := Ground.data }], guard := none }) (v := ?v40) rfl (by kernel_rfl) (by kernel_rfl) (by kernel_rfl) (fun _ _ _ h => h) (Or.inl ⟨by rfl, ?hy40⟩) hHc ?rest40
      case hy40 => (intro wy hSw; go_simp; try (with_reducible rfl))
      try simp only [Act.put, List.setIfInBounds_toArray, List.set_cons_zero, List.set_cons_succ]
      refine wpAnyH_ready (rs := [19]) (by kernel_rfl) (by simp) ?_
      refine AllReadyH.cons (o := { dst := some 31, op := Op.call { callee := Callee.value (Operand.func 21), args := #[Operand.tmp 30], argTypes := #[9] }, type := 9, pos := "ref.go:56", after := #[{ on := 18, ground := Ground.data }, { on := 15, ground := Ground.chain }], guard := none }) rfl (fun K hK => ?_) AllReadyH.nil
      go_simp
      go_at_call 21
      (with_reducible refine (h1 _).mono ?_)
      rintro _ wx3 ⟨rfl, hq⟩
      refine hK.out _ _ ?_ (fun hHd3 => ?_)
      · exact hHc.trans (hq.mono hHc.size)
      clear hK K hq
      try simp only [Act.put, List.setIfInBounds_toArray, List.set_cons_zero, List.set_cons_succ]
      refine wpAnyH_take (i := 20) (oi := { dst := some 32, op := Op.binOp BinOp.add 9 (Operand.tmp 28) (Operand.tmp 31) 9, type := 9, pos := "ref.go:56", after := #[{ on := 16, ground := Ground.data }, { on := 19, ground := Ground.data }], guard := none }) (v := ?v41) rfl (by kernel_rfl) (by kernel_rfl) (by kernel_rfl) (fun _ _ _ h => h) (Or.inl ⟨by rfl, ?hy41⟩) hHd3 ?rest41
      case hy41 => (intro wy hSw; go_simp; try (with_reducible rfl))
      try simp only [Act.put, List.setIfInBounds_toArray, List.set_cons_zero, List.set_cons_succ]
      refine wpAnyH_ready (rs := [23]) (by kernel_rfl) (by simp) ?_
      refine AllReadyH.cons (o := { dst := some 35, op := Op.call { callee := Callee.value (Operand.func 21), args := #[Operand.tmp 34], argTypes := #[9] }, type := 9, pos := "ref.go:56", after := #[{ on := 22, ground := Ground.data }, { on := 19, ground := Ground.chain }], guard := none }) rfl (fun K hK => ?_) AllReadyH.nil
      go_simp
      go_at_call 21
      (with_reducible refine (h2 _).mono ?_)
      rintro _ wx4 ⟨rfl, hq⟩
      refine hK.out _ _ ?_ (fun hHd4 => ?_)
      · exact hHd3.trans (hq.mono hHd3.size)
      clear hK K hq
      try simp only [Act.put, List.setIfInBounds_toArray, List.set_cons_zero, List.set_cons_succ]
      refine wpAnyH_take (i := 24) (oi := { dst := some 36, op := Op.binOp BinOp.add 9 (Operand.tmp 32) (Operand.tmp 35) 9, type := 9, pos := "ref.go:56", after := #[{ on := 20, ground := Ground.data }, { on := 23, ground := Ground.data }], guard := none }) (v := ?v42) rfl (by kernel_rfl) (by kernel_rfl) (by kernel_rfl) (fun _ _ _ h => h) (Or.inl ⟨by rfl, ?hy42⟩) hHd4 ?rest42
      case hy42 => (intro wy hSw; go_simp; try (with_reducible rfl))
      try simp only [Act.put, List.setIfInBounds_toArray, List.set_cons_zero, List.set_cons_succ]
      refine wpAnyH_ready (rs := [27]) (by kernel_rfl) (by simp) ?_
      refine AllReadyH.cons (o := { dst := some 39, op := Op.call { callee := Callee.value (Operand.func 21), args := #[Operand.tmp 38], argTypes := #[9] }, type := 9, pos := "ref.go:56", after := #[{ on := 26, ground := Ground.data }, { on := 23, ground := Ground.chain }], guard := none }) rfl (fun K hK => ?_) AllReadyH.nil
      go_simp
      go_at_call 21
      (with_reducible refine (h3 _).mono ?_)
      rintro _ wx5 ⟨rfl, hq⟩
      refine hK.out _ _ ?_ (fun hHd5 => ?_)
      · exact hHd4.trans (hq.mono hHd4.size)
      clear hK K hq
      try simp only [Act.put, List.setIfInBounds_toArray, List.set_cons_zero, List.set_cons_succ]
      refine wpAnyH_take (i := 28) (oi := { dst := some 40, op := Op.binOp BinOp.add 9 (Operand.tmp 36) (Operand.tmp 39) 9, type := 9, pos := "ref.go:56", after := #[{ on := 24, ground := Ground.data }, { on := 27, ground := Ground.data }], guard := none }) (v := ?v43) rfl (by kernel_rfl) (by kernel_rfl) (by kernel_rfl) (fun _ _ _ h => h) (Or.inl ⟨by rfl, ?hy43⟩) hHd5 ?rest43
      case hy43 => (intro wy hSw; go_simp; try (with_reducible rfl))
      try simp only [Act.put, List.setIfInBounds_toArray, List.set_cons_zero, List.set_cons_succ]
      refine wpAnyH_ready (rs := [31]) (by kernel_rfl) (by simp) ?_
      refine AllReadyH.cons (o := { dst := some 43, op := Op.call { callee := Callee.value (Operand.func 21), args := #[Operand.tmp 42], argTypes := #[9] }, type := 9, pos := "ref.go:56", after := #[{ on := 30, ground := Ground.data }, { on := 27, ground := Ground.chain }], guard := none }) rfl (fun K hK => ?_) AllReadyH.nil
      go_simp
      go_at_call 21
      (with_reducible refine (h4 _).mono ?_)
      rintro _ wx6 ⟨rfl, hq⟩
      refine hK.out _ _ ?_ (fun hHd6 => ?_)
      · exact hHd5.trans (hq.mono hHd5.size)
      clear hK K hq
      try simp only [Act.put, List.setIfInBounds_toArray, List.set_cons_zero, List.set_cons_succ]
      refine wpAnyH_take (i := 32) (oi := { dst := some 44, op := Op.binOp BinOp.add 9 (Operand.tmp 40) (Operand.tmp 43) 9, type := 9, pos := "ref.go:56", after := #[{ on := 28, ground := Ground.data }, { on := 31, ground := Ground.data }], guard := none }) (v := ?v44) rfl (by kernel_rfl) (by kernel_rfl) (by kernel_rfl) (fun _ _ _ h => h) (Or.inl ⟨by rfl, ?hy44⟩) hHd6 ?rest44
      case hy44 => (intro wy hSw; go_simp; try (with_reducible rfl))
      try simp only [Act.put, List.setIfInBounds_toArray, List.set_cons_zero, List.set_cons_succ]
      refine wpAnyH_take (i := 33) (oi := { dst := some 2, op := Op.assign (Operand.tmp 44), type := 9, pos := "ref.go:56", after := #[{ on := 32, ground := Ground.data }, { on := 31, ground := Ground.chain }, { on := 0, ground := Ground.phase }, { on := 1, ground := Ground.phase }, { on := 2, ground := Ground.phase }, { on := 3, ground := Ground.phase }, { on := 4, ground := Ground.phase }, { on := 5, ground := Ground.phase }, { on := 6, ground := Ground.phase }, { on := 7, ground := Ground.phase }, { on := 8, ground := Ground.phase }, { on := 9, ground := Ground.phase }, { on := 10, ground := Ground.phase }, { on := 11, ground := Ground.phase }, { on := 12, ground := Ground.phase }, { on := 13, ground := Ground.phase }, { on := 14, ground := Ground.phase }, { on := 15, ground := Ground.phase }, { on := 16, ground := Ground.phase }, { on := 17, ground := Ground.phase }, { on := 18, ground := Ground.phase }, { on := 19, ground := Ground.phase }, { on := 20, ground := Ground.phase }, { on := 21, ground := Ground.phase }, { on := 22, ground := Ground.phase }, { on := 23, ground := Ground.phase }, { on := 24, ground := Ground.phase }, { on := 25, ground := Ground.phase }, { on := 26, ground := Ground.phase }, { on := 27, ground := Ground.phase }, { on := 28, ground := Ground.phase }, { on := 29, ground := Ground.phase }, { on := 30, ground := Ground.phase }, { on := 31, ground := Ground.phase }, { on := 32, ground := Ground.phase }], guard := none }) (v := ?v45) rfl (by kernel_rfl) (by kernel_rfl) (by kernel_rfl) (fun _ _ _ h => h) (Or.inl ⟨by rfl, ?hy45⟩) hHd6 ?rest45
      case hy45 => (intro wy hSw; go_simp; try (with_reducible rfl))
      try simp only [Act.put, List.setIfInBounds_toArray, List.set_cons_zero, List.set_cons_succ]
      refine wpAnyH_take (i := 34) (oi := { dst := some 3, op := Op.assign (Operand.const (Value.int IntKind.i64 0)), type := 26, pos := "ref.go:56", after := #[{ on := 33, ground := Ground.chain }, { on := 0, ground := Ground.phase }, { on := 1, ground := Ground.phase }, { on := 2, ground := Ground.phase }, { on := 3, ground := Ground.phase }, { on := 4, ground := Ground.phase }, { on := 5, ground := Ground.phase }, { on := 6, ground := Ground.phase }, { on := 7, ground := Ground.phase }, { on := 8, ground := Ground.phase }, { on := 9, ground := Ground.phase }, { on := 10, ground := Ground.phase }, { on := 11, ground := Ground.phase }, { on := 12, ground := Ground.phase }, { on := 13, ground := Ground.phase }, { on := 14, ground := Ground.phase }, { on := 15, ground := Ground.phase }, { on := 16, ground := Ground.phase }, { on := 17, ground := Ground.phase }, { on := 18, ground := Ground.phase }, { on := 19, ground := Ground.phase }, { on := 20, ground := Ground.phase }, { on := 21, ground := Ground.phase }, { on := 22, ground := Ground.phase }, { on := 23, ground := Ground.phase }, { on := 24, ground := Ground.phase }, { on := 25, ground := Ground.phase }, { on := 26, ground := Ground.phase }, { on := 27, ground := Ground.phase }, { on := 28, ground := Ground.phase }, { on := 29, ground := Ground.phase }, { on := 30, ground := Ground.phase }, { on := 31, ground := Ground.phase }, { on := 32, ground := Ground.phase }, { on := 33, ground := Ground.phase }], guard := none }) (v := ?v46) rfl (by kernel_rfl) (by kernel_rfl) (by kernel_rfl) (fun _ _ _ h => h) (Or.inl ⟨by rfl, ?hy46⟩) hHd6 ?rest46
      case hy46 => (intro wy hSw; go_simp; try (with_reducible rfl))
      try simp only [Act.put, List.setIfInBounds_toArray, List.set_cons_zero, List.set_cons_succ]
      refine wpAnyH_done (by kernel_rfl) ?_ _
      refine NoPanic.normal ?_
      have HZ := Lib.hid (HB1.out.trans ((hHb.trans (hHd6.mono hHb.size)).mono HB1.out.size))
      go_wp2_with fail
      go_ret2
      rw [HF.out]
      exact ⟨rfl, HZ.out⟩
    refine AllReadyH.cons (o := { dst := some 31, op := Op.call { callee := Callee.value (Operand.func 21), args := #[Operand.tmp 30], argTypes := #[9] }, type := 9, pos := "ref.go:56", after := #[{ on := 18, ground := Ground.data }, { on := 15, ground := Ground.chain }], guard := none }) rfl (fun K hK => ?_) AllReadyH.nil
    go_simp
    go_at_call 21
    (with_reducible refine (h1 _).mono ?_)
    rintro _ wx3 ⟨rfl, hq⟩
    refine hK.out _ _ ?_ (fun hHe3 => ?_)
    · exact hHe2.trans (hq.mono hHe2.size)
    clear hK K hq
    try simp only [Act.put, List.setIfInBounds_toArray, List.set_cons_zero, List.set_cons_succ]
    refine wpAnyH_ready (rs := [7, 23]) (by kernel_rfl) (by simp) ?_
    refine AllReadyH.cons (o := { dst := some 19, op := Op.buildSlice 38 3 #[(0, Operand.tmp 14), (1, Operand.tmp 17), (2, Operand.tmp 18)], type := 38, pos := "ref.go:56", after := #[{ on := 2, ground := Ground.data }, { on := 5, ground := Ground.data }, { on := 6, ground := Ground.data }], guard := none }) rfl (fun K hK => ?_) ?_
    · -- the bytes, behind 3 calls
      go_simp
      refine hK.out _ _ ?_ (fun hHb => ?_)
      · exact hHe3.alloc hHe3.size _
      clear hK K
      try simp only [Act.put, List.setIfInBounds_toArray, List.set_cons_zero, List.set_cons_succ]
      refine wpAnyH_strong (S' := fun wy => Below (wx3.alloc (.cells #[.int .u8 (K : Int), .int .u8 (X : Int), .int .u8 F] 5)).heap.size (wx3.alloc (.cells #[.int .u8 (K : Int), .int .u8 (X : Int), .int .u8 F] 5)) wy) (fun wy h => hHb.trans (h.mono hHb.size)) ?_
      have hHc : Below (wx3.alloc (.cells #[.int .u8 (K : Int), .int .u8 (X : Int), .int .u8 F] 5)).heap.size (wx3.alloc (.cells #[.int .u8 (K : Int), .int .u8 (X : Int), .int .u8 F] 5)) (wx3.alloc (.cells #[.int .u8 (K : Int), .int .u8 (X : Int), .int .u8 F] 5)) := Below.refl _ _
      refine wpAnyH_take (i := 8) (oi := { dst := some 20, op := Op.convert 38 9 (Operand.tmp 19), type := 9, pos := "ref.go:56", after := #[{ on := 7, ground := Ground.data }], guard := none }) (v := ?v47) rfl (by kernel_rfl) (by kernel_rfl) (by kernel_rfl) (fun _ _ _ h => h) (Or.inl ⟨by rfl, ?hy47⟩) hHc ?rest47
      case hy47 => (intro wy hSw; have hcv := HCV.out wx3 _ hSw; go_simp; try (with_reducible rfl))
      try simp only [Act.put, List.setIfInBounds_toArray, List.set_cons_zero, List.set_cons_succ]
      refine wpAnyH_take (i := 12) (oi := { dst := some 24, op := Op.binOp BinOp.add 9 (Operand.tmp 20) (Operand.tmp 23) 9, type := 9, pos := "ref.go:56", after := #[{ on := 8, ground := Ground.data }, { on := 11, ground := Ground.data }], guard := none }) (v := ?v48) rfl (by kernel_rfl) (by kernel_rfl) (by kernel_rfl) (fun _ _ _ h => h) (Or.inl ⟨by rfl, ?hy48⟩) hHc ?rest48
      case hy48 => (intro wy hSw; go_simp; try (with_reducible rfl))
      try simp only [Act.put, List.setIfInBounds_toArray, List.set_cons_zero, List.set_cons_succ]
      refine wpAnyH_take (i := 16) (oi := { dst := some 28, op := Op.binOp BinOp.add 9 (Operand.tmp 24) (Operand.tmp 27) 9, type := 9, pos := "ref.go:56", after := #[{ on := 12, ground := Ground.data }, { on := 15, ground := Ground.data }], guard := none }) (v := ?v49) rfl (by kernel_rfl) (by kernel_rfl) (by kernel_rfl) (fun _ _ _ h => h) (Or.inl ⟨by rfl, ?hy49⟩) hHc ?rest49
      case hy49 => (intro wy hSw; go_simp; try (with_reducible rfl))
      try simp only [Act.put, List.setIfInBounds_toArray, List.set_cons_zero, List.set_cons_succ]
      refine wpAnyH_take (i := 20) (oi := { dst := some 32, op := Op.binOp BinOp.add 9 (Operand.tmp 28) (Operand.tmp 31) 9, type := 9, pos := "ref.go:56", after := #[{ on := 16, ground := Ground.data }, { on := 19, ground := Ground.data }], guard := none }) (v := ?v50) rfl (by kernel_rfl) (by kernel_rfl) (by kernel_rfl) (fun _ _ _ h => h) (Or.inl ⟨by rfl, ?hy50⟩) hHc ?rest50
      case hy50 => (intro wy hSw; go_simp; try (with_reducible rfl))
      try simp only [Act.put, List.setIfInBounds_toArray, List.set_cons_zero, List.set_cons_succ]
      refine wpAnyH_ready (rs := [23]) (by kernel_rfl) (by simp) ?_
      refine AllReadyH.cons (o := { dst := some 35, op := Op.call { callee := Callee.value (Operand.func 21), args := #[Operand.tmp 34], argTypes := #[9] }, type := 9, pos := "ref.go:56", after := #[{ on := 22, ground := Ground.data }, { on := 19, ground := Ground.chain }], guard := none }) rfl (fun K hK => ?_) AllReadyH.nil
      go_simp
      go_at_call 21
      (with_reducible refine (h2 _).mono ?_)
      rintro _ wx4 ⟨rfl, hq⟩
      refine hK.out _ _ ?_ (fun hHd4 => ?_)
      · exact hHc.trans (hq.mono hHc.size)
      clear hK K hq
      try simp only [Act.put, List.setIfInBounds_toArray, List.set_cons_zero, List.set_cons_succ]
      refine wpAnyH_take (i := 24) (oi := { dst := some 36, op := Op.binOp BinOp.add 9 (Operand.tmp 32) (Operand.tmp 35) 9, type := 9, pos := "ref.go:56", after := #[{ on := 20, ground := Ground.data }, { on := 23, ground := Ground.data }], guard := none }) (v := ?v51) rfl (by kernel_rfl) (by kernel_rfl) (by kernel_rfl) (fun _ _ _ h => h) (Or.inl ⟨by rfl, ?hy51⟩) hHd4 ?rest51
      case hy51 => (intro wy hSw; go_simp; try (with_reducible rfl))
      try simp only [Act.put, List.setIfInBounds_toArray, List.set_cons_zero, List.set_cons_succ]
      refine wpAnyH_ready (rs := [27]) (by kernel_rfl) (by simp) ?_
      refine AllReadyH.cons (o := { dst := some 39, op := Op.call { callee := Callee.value (Operand.func 21), args := #[Operand.tmp 38], argTypes := #[9] }, type := 9, pos := "ref.go:56", after := #[{ on := 26, ground := Ground.data }, { on := 23, ground := Ground.chain }], guard := none }) rfl (fun K hK => ?_) AllReadyH.nil
      go_simp
      go_at_call 21
      (with_reducible refine (h3 _).mono ?_)
      rintro _ wx5 ⟨rfl, hq⟩
      refine hK.out _ _ ?_ (fun hHd5 => ?_)
      · exact hHd4.trans (hq.mono hHd4.size)
      clear hK K hq
      try simp only [Act.put, List.setIfInBounds_toArray, List.set_cons_zero, List.set_cons_succ]
      refine wpAnyH_take (i := 28) (oi := { dst := some 40, op := Op.binOp BinOp.add 9 (Operand.tmp 36) (Operand.tmp 39) 9, type := 9, pos := "ref.go:56", after := #[{ on := 24, ground := Ground.data }, { on := 27, ground := Ground.data }], guard := none }) (v := ?v52) rfl (by kernel_rfl) (by kernel_rfl) (by kernel_rfl) (fun _ _ _ h => h) (Or.inl ⟨by rfl, ?hy52⟩) hHd5 ?rest52
      case hy52 => (intro wy hSw; go_simp; try (with_reducible rfl))
      try simp only [Act.put, List.setIfInBounds_toArray, List.set_cons_zero, List.set_cons_succ]
      refine wpAnyH_ready (rs := [31]) (by kernel_rfl) (by simp) ?_
      refine AllReadyH.cons (o := { dst := some 43, op := Op.call { callee := Callee.value (Operand.func 21), args := #[Operand.tmp 42], argTypes := #[9] }, type := 9, pos := "ref.go:56", after := #[{ on := 30, ground := Ground.data }, { on := 27, ground := Ground.chain }], guard := none }) rfl (fun K hK => ?_) AllReadyH.nil
      go_simp
      go_at_call 21
      (with_reducible refine (h4 _).mono ?_)
      rintro _ wx6 ⟨rfl, hq⟩
      refine hK.out _ _ ?_ (fun hHd6 => ?_)
      · exact hHd5.trans (hq.mono hHd5.size)
      clear hK K hq
      try simp only [Act.put, List.setIfInBounds_toArray, List.set_cons_zero, List.set_cons_succ]
      refine wpAnyH_take (i := 32) (oi := { dst := some 44, op := Op.binOp BinOp.add 9 (Operand.tmp 40) (Operand.tmp 43) 9, type := 9, pos := "ref.go:56", after := #[{ on := 28, ground := Ground.data }, { on := 31, ground := Ground.data }], guard := none }) (v := ?v53) rfl (by kernel_rfl) (by kernel_rfl) (by kernel_rfl) (fun _ _ _ h => h) (Or.inl ⟨by rfl, ?hy53⟩) hHd6 ?rest53
      case hy53 => (intro wy hSw; go_simp; try (with_reducible rfl))
      try simp only [Act.put, List.setIfInBounds_toArray, List.set_cons_zero, List.set_cons_succ]
      refine wpAnyH_take (i := 33) (oi := { dst := some 2, op := Op.assign (Operand.tmp 44), type := 9, pos := "ref.go:56", after := #[{ on := 32, ground := Ground.data }, { on := 31, ground := Ground.chain }, { on := 0, ground := Ground.phase }, { on := 1, ground := Ground.phase }, { on := 2, ground := Ground.phase }, { on := 3, ground := Ground.phase }, { on := 4, ground := Ground.phase }, { on := 5, ground := Ground.phase }, { on := 6, ground := Ground.phase }, { on := 7, ground := Ground.phase }, { on := 8, ground := Ground.phase }, { on := 9, ground := Ground.phase }, { on := 10, ground := Ground.phase }, { on := 11, ground := Ground.phase }, { on := 12, ground := Ground.phase }, { on := 13, ground := Ground.phase }, { on := 14, ground := Ground.phase }, { on := 15, ground := Ground.phase }, { on := 16, ground := Ground.phase }, { on := 17, ground := Ground.phase }, { on := 18, ground := Ground.phase }, { on := 19, ground := Ground.phase }, { on := 20, ground := Ground.phase }, { on := 21, ground := Ground.phase }, { on := 22, ground := Ground.phase }, { on := 23, ground := Ground.phase }, { on := 24, ground := Ground.phase }, { on := 25, ground := Ground.phase }, { on := 26, ground := Ground.phase }, { on := 27, ground := Ground.phase }, { on := 28, ground := Ground.phase }, { on := 29, ground := Ground.phase }, { on := 30, ground := Ground.phase }, { on := 31, ground := Ground.phase }, { on := 32, ground := Ground.phase }], guard := none }) (v := ?v54) rfl (by kernel_rfl) (by kernel_rfl) (by kernel_rfl) (fun _ _ _ h => h) (Or.inl ⟨by rfl, ?hy54⟩) hHd6 ?rest54
      case hy54 => (intro wy hSw; go_simp; try (with_reducible rfl))
      try simp only [Act.put, List.setIfInBounds_toArray, List.set_cons_zero, List.set_cons_succ]
      refine wpAnyH_take (i := 34) (oi := { dst := some 3, op := Op.assign (Operand.const (Value.int IntKind.i64 0)), type := 26, pos := "ref.go:56", after := #[{ on := 33, ground := Ground.chain }, { on := 0, ground := Ground.phase }, { on := 1, ground := Ground.phase }, { on := 2, ground := Ground.phase }, { on := 3, ground := Ground.phase }, { on := 4, ground := Ground.phase }, { on := 5, ground := Ground.phase }, { on := 6, ground := Ground.phase }, { on := 7, ground := Ground.phase }, { on := 8, ground := Ground.phase }, { on := 9, ground := Ground.phase }, { on := 10, ground := Ground.phase }, { on := 11, ground := Ground.phase }, { on := 12, ground := Ground.phase }, { on := 13, ground := Ground.phase }, { on := 14, ground := Ground.phase }, { on := 15, ground := Ground.phase }, { on := 16, ground := Ground.phase }, { on := 17, ground := Ground.phase }, { on := 18, ground := Ground.phase }, { on := 19, ground := Ground.phase }, { on := 20, ground := Ground.phase }, { on := 21, ground := Ground.phase }, { on := 22, ground := Ground.phase }, { on := 23, ground := Ground.phase }, { on := 24, ground := Ground.phase }, { on := 25, ground := Ground.phase }, { on := 26, ground := Ground.phase }, { on := 27, ground := Ground.phase }, { on := 28, ground := Ground.phase }, { on := 29, ground := Ground.phase }, { on := 30, ground := Ground.phase }, { on := 31, ground := Ground.phase }, { on := 32, ground := Ground.phase }, { on := 33, ground := Ground.phase }], guard := none }) (v := ?v55) rfl (by kernel_rfl) (by kernel_rfl) (by kernel_rfl) (fun _ _ _ h => h) (Or.inl ⟨by rfl, ?hy55⟩) hHd6 ?rest55
      case hy55 => (intro wy hSw; go_simp; try (with_reducible rfl))
      try simp only [Act.put, List.setIfInBounds_toArray, List.set_cons_zero, List.set_cons_succ]
      refine wpAnyH_done (by kernel_rfl) ?_ _
      refine NoPanic.normal ?_
      have HZ := Lib.hid (HB1.out.trans ((hHb.trans (hHd6.mono hHb.size)).mono HB1.out.size))
      go_wp2_with fail
      go_ret2
      rw [HF.out]
      exact ⟨rfl, HZ.out⟩
    refine AllReadyH.cons (o := { dst := some 35, op := Op.call { callee := Callee.value (Operand.func 21), args := #[Operand.tmp 34], argTypes := #[9] }, type := 9, pos := "ref.go:56", after := #[{ on := 22, ground := Ground.data }, { on := 19, ground := Ground.chain }], guard := none }) rfl (fun K hK => ?_) AllReadyH.nil
    go_simp
    go_at_call 21
    (with_reducible refine (h2 _).mono ?_)
    rintro _ wx4 ⟨rfl, hq⟩
    refine hK.out _ _ ?_ (fun hHe4 => ?_)
    · exact hHe3.trans (hq.mono hHe3.size)
    clear hK K hq
    try simp only [Act.put, List.setIfInBounds_toArray, List.set_cons_zero, List.set_cons_succ]
    refine wpAnyH_ready (rs := [7, 27]) (by kernel_rfl) (by simp) ?_
    refine AllReadyH.cons (o := { dst := some 19, op := Op.buildSlice 38 3 #[(0, Operand.tmp 14), (1, Operand.tmp 17), (2, Operand.tmp 18)], type := 38, pos := "ref.go:56", after := #[{ on := 2, ground := Ground.data }, { on := 5, ground := Ground.data }, { on := 6, ground := Ground.data }], guard := none }) rfl (fun K hK => ?_) ?_
    · -- the bytes, behind 4 calls
      go_simp
      refine hK.out _ _ ?_ (fun hHb => ?_)
      · exact hHe4.alloc hHe4.size _
      clear hK K
      try simp only [Act.put, List.setIfInBounds_toArray, List.set_cons_zero, List.set_cons_succ]
      refine wpAnyH_strong (S' := fun wy => Below (wx4.alloc (.cells #[.int .u8 (K : Int), .int .u8 (X : Int), .int .u8 F] 5)).heap.size (wx4.alloc (.cells #[.int .u8 (K : Int), .int .u8 (X : Int), .int .u8 F] 5)) wy) (fun wy h => hHb.trans (h.mono hHb.size)) ?_
      have hHc : Below (wx4.alloc (.cells #[.int .u8 (K : Int), .int .u8 (X : Int), .int .u8 F] 5)).heap.size (wx4.alloc (.cells #[.int .u8 (K : Int), .int .u8 (X : Int), .int .u8 F] 5)) (wx4.alloc (.cells #[.int .u8 (K : Int), .int .u8 (X : Int), .int .u8 F] 5)) := Below.refl _ _
      refine wpAnyH_take (i := 8) (oi := { dst := some 20, op := Op.convert 38 9 (Operand.tmp 19), type := 9, pos := "ref.go:56", after := #[{ on := 7, ground := Ground.data }], guard := none }) (v := ?v56) rfl (by kernel_rfl) (by kernel_rfl) (by kernel_rfl) (fun _ _ _ h => h) (Or.inl ⟨by rfl, ?hy56⟩) hHc ?rest56
      case hy56 => (intro wy hSw; have hcv := HCV.out wx4 _ hSw; go_simp; try (with_reducible rfl))
      try simp only [Act.put, List.setIfInBounds_toArray, List.set_cons_zero, List.set_cons_succ]
      refine wpAnyH_take (i := 12) (oi := { dst := some 24, op := Op.binOp BinOp.add 9 (Operand.tmp 20) (Operand.tmp 23) 9, type := 9, pos := "ref.go:56", after := #[{ on := 8, ground := Ground.data }, { on := 11, ground := Ground.data }], guard := none }) (v := ?v57) rfl (by kernel_rfl) (by kernel_rfl) (by kernel_rfl) (fun _ _ _ h => h) (Or.inl ⟨by rfl, ?hy57⟩) hHc ?rest57
      case hy57 => (intro wy hSw; go_simp; try (with_reducible rfl))
      try simp only [Act.put, List.setIfInBounds_toArray, List.set_cons_zero, List.set_cons_succ]
      refine wpAnyH_take (i := 16) (oi := { dst := some 28, op := Op.binOp BinOp.add 9 (Operand.tmp 24) (Operand.tmp 27) 9, type := 9, pos := "ref.go:56", after := #[{ on := 12, ground := Ground.data }, { on := 15, ground := Ground.data }], guard := none }) (v := ?v58) rfl (by kernel_rfl) (by kernel_rfl) (by kernel_rfl) (fun _ _ _ h => h) (Or.inl ⟨by rfl, ?hy58⟩) hHc ?rest58
      case hy58 => (intro wy hSw; go_simp; try (with_reducible rfl))
      try simp only [Act.put, List.setIfInBounds_toArray, List.set_cons_zero, List.set_cons_succ]
      refine wpAnyH_take (i := 20) (oi := { dst := some 32, op := Op.binOp BinOp.add 9 (Operand.tmp 28) (Operand.tmp 31) 9, type := 9, pos := "ref.go:56", after := #[{ on := 16, ground := Ground.data }, { on := 19, ground := Ground.data }], guard := none }) (v := ?v59) rfl (by kernel_rfl) (by kernel_rfl) (by kernel_rfl) (fun _ _ _ h => h) (Or.inl ⟨by rfl, ?hy59⟩) hHc ?rest59
      case hy59 => (intro wy hSw; go_simp; try (with_reducible rfl))
      try simp only [Act.put, List.setIfInBounds_toArray, List.set_cons_zero, List.set_cons_succ]
      refine wpAnyH_take (i := 24) (oi := { dst := some 36, op := Op.binOp BinOp.add 9 (Operand.tmp 32) (Operand.tmp 35) 9, type := 9, pos := "ref.go:56", after := #[{ on := 20, ground := Ground.data }, { on := 23, ground := Ground.data }], guard := none }) (v := ?v60) rfl (by kernel_rfl) (by kernel_rfl) (by kernel_rfl) (fun _ _ _ h => h) (Or.inl ⟨by rfl, ?hy60⟩) hHc ?rest60
      case hy60 => (intro wy hSw; go_simp; try (with_reducible rfl))
      try simp only [Act.put, List.setIfInBounds_toArray, List.set_cons_zero, List.set_cons_succ]
      refine wpAnyH_ready (rs := [27]) (by kernel_rfl) (by simp) ?_
      refine AllReadyH.cons (o := { dst := some 39, op := Op.call { callee := Callee.value (Operand.func 21), args := #[Operand.tmp 38], argTypes := #[9] }, type := 9, pos := "ref.go:56", after := #[{ on := 26, ground := Ground.data }, { on := 23, ground := Ground.chain }], guard := none }) rfl (fun K hK => ?_) AllReadyH.nil
      go_simp
      go_at_call 21
      (with_reducible refine (h3 _).mono ?_)
      rintro _ wx5 ⟨rfl, hq⟩
      refine hK.out _ _ ?_ (fun hHd5 => ?_)
      · exact hHc.trans (hq.mono hHc.size)
      clear hK K hq
      try simp only [Act.put, List.setIfInBounds_toArray, List.set_cons_zero, List.set_cons_succ]
      refine wpAnyH_take (i := 28) (oi := { dst := some 40, op := Op.binOp BinOp.add 9 (Operand.tmp 36) (Operand.tmp 39) 9, type := 9, pos := "ref.go:56", after := #[{ on := 24, ground := Ground.data }, { on := 27, ground := Ground.data }], guard := none }) (v := ?v61) rfl (by kernel_rfl) (by kernel_rfl) (by kernel_rfl) (fun _ _ _ h => h) (Or.inl ⟨by rfl, ?hy61⟩) hHd5 ?rest61
      case hy61 => (intro wy hSw; go_simp; try (with_reducible rfl))
      try simp only [Act.put, List.setIfInBounds_toArray, List.set_cons_zero, List.set_cons_succ]
      refine wpAnyH_ready (rs := [31]) (by kernel_rfl) (by simp) ?_
      refine AllReadyH.cons (o := { dst := some 43, op := Op.call { callee := Callee.value (Operand.func 21), args := #[Operand.tmp 42], argTypes := #[9] }, type := 9, pos := "ref.go:56", after := #[{ on := 30, ground := Ground.data }, { on := 27, ground := Ground.chain }], guard := none }) rfl (fun K hK => ?_) AllReadyH.nil
      go_simp
      go_at_call 21
      (with_reducible refine (h4 _).mono ?_)
      rintro _ wx6 ⟨rfl, hq⟩
      refine hK.out _ _ ?_ (fun hHd6 => ?_)
      · exact hHd5.trans (hq.mono hHd5.size)
      clear hK K hq
      try simp only [Act.put, List.setIfInBounds_toArray, List.set_cons_zero, List.set_cons_succ]
      refine wpAnyH_take (i := 32) (oi := { dst := some 44, op := Op.binOp BinOp.add 9 (Operand.tmp 40) (Operand.tmp 43) 9, type := 9, pos := "ref.go:56", after := #[{ on := 28, ground := Ground.data }, { on := 31, ground := Ground.data }], guard := none }) (v := ?v62) rfl (by kernel_rfl) (by kernel_rfl) (by kernel_rfl) (fun _ _ _ h => h) (Or.inl ⟨by rfl, ?hy62⟩) hHd6 ?rest62
      case hy62 => (intro wy hSw; go_simp; try (with_reducible rfl))
      try simp only [Act.put, List.setIfInBounds_toArray, List.set_cons_zero, List.set_cons_succ]
      refine wpAnyH_take (i := 33) (oi := { dst := some 2, op := Op.assign (Operand.tmp 44), type := 9, pos := "ref.go:56", after := #[{ on := 32, ground := Ground.data }, { on := 31, ground := Ground.chain }, { on := 0, ground := Ground.phase }, { on := 1, ground := Ground.phase }, { on := 2, ground := Ground.phase }, { on := 3, ground := Ground.phase }, { on := 4, ground := Ground.phase }, { on := 5, ground := Ground.phase }, { on := 6, ground := Ground.phase }, { on := 7, ground := Ground.phase }, { on := 8, ground := Ground.phase }, { on := 9, ground := Ground.phase }, { on := 10, ground := Ground.phase }, { on := 11, ground := Ground.phase }, { on := 12, ground := Ground.phase }, { on := 13, ground := Ground.phase }, { on := 14, ground := Ground.phase }, { on := 15, ground := Ground.phase }, { on := 16, ground := Ground.phase }, { on := 17, ground := Ground.phase }, { on := 18, ground := Ground.phase }, { on := 19, ground := Ground.phase }, { on := 20, ground := Ground.phase }, { on := 21, ground := Ground.phase }, { on := 22, ground := Ground.phase }, { on := 23, ground := Ground.phase }, { on := 24, ground := Ground.phase }, { on := 25, ground := Ground.phase }, { on := 26, ground := Ground.phase }, { on := 27, ground := Ground.phase }, { on := 28, ground := Ground.phase }, { on := 29, ground := Ground.phase }, { on := 30, ground := Ground.phase }, { on := 31, ground := Ground.phase }, { on := 32, ground := Ground.phase }], guard := none }) (v := ?v63) rfl (by kernel_rfl) (by kernel_rfl) (by kernel_rfl) (fun _ _ _ h => h) (Or.inl ⟨by rfl, ?hy63⟩) hHd6 ?rest63
      case hy63 => (intro wy hSw; go_simp; try (with_reducible rfl))
      try simp only [Act.put, List.setIfInBounds_toArray, List.set_cons_zero, List.set_cons_succ]
      refine wpAnyH_take (i := 34) (oi := { dst := some 3, op := Op.assign (Operand.const (Value.int IntKind.i64 0)), type := 26, pos := "ref.go:56", after := #[{ on := 33, ground := Ground.chain }, { on := 0, ground := Ground.phase }, { on := 1, ground := Ground.phase }, { on := 2, ground := Ground.phase }, { on := 3, ground := Ground.phase }, { on := 4, ground := Ground.phase }, { on := 5, ground := Ground.phase }, { on := 6, ground := Ground.phase }, { on := 7, ground := Ground.phase }, { on := 8, ground := Ground.phase }, { on := 9, ground := Ground.phase }, { on := 10, ground := Ground.phase }, { on := 11, ground := Ground.phase }, { on := 12, ground := Ground.phase }, { on := 13, ground := Ground.phase }, { on := 14, ground := Ground.phase }, { on := 15, ground := Ground.phase }, { on := 16, ground := Ground.phase }, { on := 17, ground := Ground.phase }, { on := 18, ground := Ground.phase }, { on := 19, ground := Ground.phase }, { on := 20, ground := Ground.phase }, { on := 21, ground := Ground.phase }, { on := 22, ground := Ground.phase }, { on := 23, ground := Ground.phase }, { on := 24, ground := Ground.phase }, { on := 25, ground := Ground.phase }, { on := 26, ground := Ground.phase }, { on := 27, ground := Ground.phase }, { on := 28, ground := Ground.phase }, { on := 29, ground := Ground.phase }, { on := 30, ground := Ground.phase }, { on := 31, ground := Ground.phase }, { on := 32, ground := Ground.phase }, { on := 33, ground := Ground.phase }], guard := none }) (v := ?v64) rfl (by kernel_rfl) (by kernel_rfl) (by kernel_rfl) (fun _ _ _ h => h) (Or.inl ⟨by rfl, ?hy64⟩) hHd6 ?rest64
      case hy64 => (intro wy hSw; go_simp; try (with_reducible rfl))
      try simp only [Act.put, List.setIfInBounds_toArray, List.set_cons_zero, List.set_cons_succ]
      refine wpAnyH_done (by kernel_rfl) ?_ _
      refine NoPanic.normal ?_
      have HZ := Lib.hid (HB1.out.trans ((hHb.trans (hHd6.mono hHb.size)).mono HB1.out.size))
      go_wp2_with fail
      go_ret2
      rw [HF.out]
      exact ⟨rfl, HZ.out⟩
    refine AllReadyH.cons (o := { dst := some 39, op := Op.call { callee := Callee.value (Operand.func 21), args := #[Operand.tmp 38], argTypes := #[9] }, type := 9, pos := "ref.go:56", after := #[{ on := 26, ground := Ground.data }, { on := 23, ground := Ground.chain }], guard := none }) rfl (fun K hK => ?_) AllReadyH.nil
    go_simp
    go_at_call 21
    (with_reducible refine (h3 _).mono ?_)
    rintro _ wx5 ⟨rfl, hq⟩
    refine hK.out _ _ ?_ (fun hHe5 => ?_)
    · exact hHe4.trans (hq.mono hHe4.size)
    clear hK K hq
    try simp only [Act.put, List.setIfInBounds_toArray, List.set_cons_zero, List.set_cons_succ]
    refine wpAnyH_ready (rs := [7, 31]) (by kernel_rfl) (by simp) ?_
    refine AllReadyH.cons (o := { dst := some 19, op := Op.buildSlice 38 3 #[(0, Operand.tmp 14), (1, Operand.tmp 17), (2, Operand.tmp 18)], type := 38, pos := "ref.go:56", after := #[{ on := 2, ground := Ground.data }, { on := 5, ground := Ground.data }, { on := 6, ground := Ground.data }], guard := none }) rfl (fun K hK => ?_) ?_
    · -- the bytes, behind 5 calls
      go_simp
      refine hK.out _ _ ?_ (fun hHb => ?_)
      · exact hHe5.alloc hHe5.size _
      clear hK K
      try simp only [Act.put, List.setIfInBounds_toArray, List.set_cons_zero, List.set_cons_succ]
      refine wpAnyH_strong (S' := fun wy => Below (wx5.alloc (.cells #[.int .u8 (K : Int), .int .u8 (X : Int), .int .u8 F] 5)).heap.size (wx5.alloc (.cells #[.int .u8 (K : Int), .int .u8 (X : Int), .int .u8 F] 5)) wy) (fun wy h => hHb.trans (h.mono hHb.size)) ?_
      have hHc : Below (wx5.alloc (.cells #[.int .u8 (K : Int), .int .u8 (X : Int), .int .u8 F] 5)).heap.size (wx5.alloc (.cells #[.int .u8 (K : Int), .int .u8 (X : Int), .int .u8 F] 5)) (wx5.alloc (.cells #[.int .u8 (K : Int), .int .u8 (X : Int), .int .u8 F] 5)) := Below.refl _ _
      refine wpAnyH_take (i := 8) (oi := { dst := some 20, op := Op.convert 38 9 (Operand.tmp 19), type := 9, pos := "ref.go:56", after := #[{ on := 7, ground := Ground.data }], guard := none }) (v := ?v65) rfl (by kernel_rfl) (by kernel_rfl) (by kernel_rfl) (fun _ _ _ h => h) (Or.inl ⟨by rfl, ?hy65⟩) hHc ?rest65
      case hy65 => (intro wy hSw; have hcv := HCV.out wx5 _ hSw; go_simp; try (with_reducible rfl))
      try simp only [Act.put, List.setIfInBounds_toArray, List.set_cons_zero, List.set_cons_succ]
      refine wpAnyH_take (i := 12) (oi := { dst := some 24, op := Op.binOp BinOp.add 9 (Operand.tmp 20) (Operand.tmp 23) 9, type := 9, pos := "ref.go:56", after := #[{ on := 8, ground := Ground.data }, { on := 11, ground := Ground.data }], guard := none }) (v := ?v66) rfl (by kernel_rfl) (by kernel_rfl) (by kernel_rfl) (fun _ _ _ h => h) (Or.inl ⟨by rfl, ?hy66⟩) hHc ?rest66
      case hy66 => (intro wy hSw; go_simp; try (with_reducible rfl))
      try simp only [Act.put, List.setIfInBounds_toArray, List.set_cons_zero, List.set_cons_succ]
      refine wpAnyH_take (i := 16) (oi := { dst := some 28, op := Op.binOp BinOp.add 9 (Operand.tmp 24) (Operand.tmp 27) 9, type := 9, pos := "ref.go:56", after := #[{ on := 12, ground := Ground.data }, { on := 15, ground := Ground.data }], guard := none }) (v := ?v67) rfl (by kernel_rfl) (by kernel_rfl) (by kernel_rfl) (fun _ _ _ h => h) (Or.inl ⟨by rfl, ?hy67⟩) hHc ?rest67
      case hy67 => (intro wy hSw; go_simp; try (with_reducible rfl))
      try simp only [Act.put, List.setIfInBounds_toArray, List.set_cons_zero, List.set_cons_succ]
      refine wpAnyH_take (i := 20) (oi := { dst := some 32, op := Op.binOp BinOp.add 9 (Operand.tmp 28) (Operand.tmp 31) 9, type := 9, pos := "ref.go:56", after := #[{ on := 16, ground := Ground.data }, { on := 19, ground := Ground.data }], guard := none }) (v := ?v68) rfl (by kernel_rfl) (by kernel_rfl) (by kernel_rfl) (fun _ _ _ h => h) (Or.inl ⟨by rfl, ?hy68⟩) hHc ?rest68
      case hy68 => (intro wy hSw; go_simp; try (with_reducible rfl))
      try simp only [Act.put, List.setIfInBounds_toArray, List.set_cons_zero, List.set_cons_succ]
      refine wpAnyH_take (i := 24) (oi := { dst := some 36, op := Op.binOp BinOp.add 9 (Operand.tmp 32) (Operand.tmp 35) 9, type := 9, pos := "ref.go:56", after := #[{ on := 20, ground := Ground.data }, { on := 23, ground := Ground.data }], guard := none }) (v := ?v69) rfl (by kernel_rfl) (by kernel_rfl) (by kernel_rfl) (fun _ _ _ h => h) (Or.inl ⟨by rfl, ?hy69⟩) hHc ?rest69
      case hy69 => (intro wy hSw; go_simp; try (with_reducible rfl))
      try simp only [Act.put, List.setIfInBounds_toArray, List.set_cons_zero, List.set_cons_succ]
      refine wpAnyH_take (i := 28) (oi := { dst := some 40, op := Op.binOp BinOp.add 9 (Operand.tmp 36) (Operand.tmp 39) 9, type := 9, pos := "ref.go:56", after := #[{ on := 24, ground := Ground.data }, { on := 27, ground := Ground.data }], guard := none }) (v := ?v70) rfl (by kernel_rfl) (by kernel_rfl) (by kernel_rfl) (fun _ _ _ h => h) (Or.inl ⟨by rfl, ?hy70⟩) hHc ?rest70
      case hy70 => (intro wy hSw; go_simp; try (with_reducible rfl))
      try simp only [Act.put, List.setIfInBounds_toArray, List.set_cons_zero, List.set_cons_succ]
      refine wpAnyH_ready (rs := [31]) (by kernel_rfl) (by simp) ?_
      refine AllReadyH.cons (o := { dst := some 43, op := Op.call { callee := Callee.value (Operand.func 21), args := #[Operand.tmp 42], argTypes := #[9] }, type := 9, pos := "ref.go:56", after := #[{ on := 30, ground := Ground.data }, { on := 27, ground := Ground.chain }], guard := none }) rfl (fun K hK => ?_) AllReadyH.nil
      go_simp
      go_at_call 21
      (with_reducible refine (h4 _).mono ?_)
      rintro _ wx6 ⟨rfl, hq⟩
      refine hK.out _ _ ?_ (fun hHd6 => ?_)
      · exact hHc.trans (hq.mono hHc.size)
      clear hK K hq
      try simp only [Act.put, List.setIfInBounds_toArray, List.set_cons_zero, List.set_cons_succ]
      refine wpAnyH_take (i := 32) (oi := { dst := some 44, op := Op.binOp BinOp.add 9 (Operand.tmp 40) (Operand.tmp 43) 9, type := 9, pos := "ref.go:56", after := #[{ on := 28, ground := Ground.data }, { on := 31, ground := Ground.data }], guard := none }) (v := ?v71) rfl (by kernel_rfl) (by kernel_rfl) (by kernel_rfl) (fun _ _ _ h => h) (Or.inl ⟨by rfl, ?hy71⟩) hHd6 ?rest71
      case hy71 => (intro wy hSw; go_simp; try (with_reducible rfl))
      try simp only [Act.put, List.setIfInBounds_toArray, List.set_cons_zero, List.set_cons_succ]
      refine wpAnyH_take (i := 33) (oi := { dst := some 2, op := Op.assign (Operand.tmp 44), type := 9, pos := "ref.go:56", after := #[{ on := 32, ground := Ground.data }, { on := 31, ground := Ground.chain }, { on := 0, ground := Ground.phase }, { on := 1, ground := Ground.phase }, { on := 2, ground := Ground.phase }, { on := 3, ground := Ground.phase }, { on := 4, ground := Ground.phase }, { on := 5, ground := Ground.phase }, { on := 6, ground := Ground.phase }, { on := 7, ground := Ground.phase }, { on := 8, ground := Ground.phase }, { on := 9, ground := Ground.phase }, { on := 10, ground := Ground.phase }, { on := 11, ground := Ground.phase }, { on := 12, ground := Ground.phase }, { on := 13, ground := Ground.phase }, { on := 14, ground := Ground.phase }, { on := 15, ground := Ground.phase }, { on := 16, ground := Ground.phase }, { on := 17, ground := Ground.phase }, { on := 18, ground := Ground.phase }, { on := 19, ground := Ground.phase }, { on := 20, ground := Ground.phase }, { on := 21, ground := Ground.phase }, { on := 22, ground := Ground.phase }, { on := 23, ground := Ground.phase }, { on := 24, ground := Ground.phase }, { on := 25, ground := Ground.phase }, { on := 26, ground := Ground.phase }, { on := 27, ground := Ground.phase }, { on := 28, ground := Ground.phase }, { on := 29, ground := Ground.phase }, { on := 30, ground := Ground.phase }, { on := 31, ground := Ground.phase }, { on := 32, ground := Ground.phase }], guard := none }) (v := ?v72) rfl (by kernel_rfl) (by kernel_rfl) (by kernel_rfl) (fun _ _ _ h => h) (Or.inl ⟨by rfl, ?hy72⟩) hHd6 ?rest72
      case hy72 => (intro wy hSw; go_simp; try (with_reducible rfl))
      try simp only [Act.put, List.setIfInBounds_toArray, List.set_cons_zero, List.set_cons_succ]
      refine wpAnyH_take (i := 34) (oi := { dst := some 3, op := Op.assign (Operand.const (Value.int IntKind.i64 0)), type := 26, pos := "ref.go:56", after := #[{ on := 33, ground := Ground.chain }, { on := 0, ground := Ground.phase }, { on := 1, ground := Ground.phase }, { on := 2, ground := Ground.phase }, { on := 3, ground := Ground.phase }, { on := 4, ground := Ground.phase }, { on := 5, ground := Ground.phase }, { on := 6, ground := Ground.phase }, { on := 7, ground := Ground.phase }, { on := 8, ground := Ground.phase }, { on := 9, ground := Ground.phase }, { on := 10, ground := Ground.phase }, { on := 11, ground := Ground.phase }, { on := 12, ground := Ground.phase }, { on := 13, ground := Ground.phase }, { on := 14, ground := Ground.phase }, { on := 15, ground := Ground.phase }, { on := 16, ground := Ground.phase }, { on := 17, ground := Ground.phase }, { on := 18, ground := Ground.phase }, { on := 19, ground := Ground.phase }, { on := 20, ground := Ground.phase }, { on := 21, ground := Ground.phase }, { on := 22, ground := Ground.phase }, { on := 23, ground := Ground.phase }, { on := 24, ground := Ground.phase }, { on := 25, ground := Ground.phase }, { on := 26, ground := Ground.phase }, { on := 27, ground := Ground.phase }, { on := 28, ground := Ground.phase }, { on := 29, ground := Ground.phase }, { on := 30, ground := Ground.phase }, { on := 31, ground := Ground.phase }, { on := 32, ground := Ground.phase }, { on := 33, ground := Ground.phase }], guard := none }) (v := ?v73) rfl (by kernel_rfl) (by kernel_rfl) (by kernel_rfl) (fun _ _ _ h => h) (Or.inl ⟨by rfl, ?hy73⟩) hHd6 ?rest73
      case hy73 => (intro wy hSw; go_simp; try (with_reducible rfl))
      try simp only [Act.put, List.setIfInBounds_toArray, List.set_cons_zero, List.set_cons_succ]
      refine wpAnyH_done (by kernel_rfl) ?_ _
      refine NoPanic.normal ?_
      have HZ := Lib.hid (HB1.out.trans ((hHb.trans (hHd6.mono hHb.size)).mono HB1.out.size))
      go_wp2_with fail
      go_ret2
      rw [HF.out]
      exact ⟨rfl, HZ.out⟩
    refine AllReadyH.cons (o := { dst := some 43, op := Op.call { callee := Callee.value (Operand.func 21), args := #[Operand.tmp 42], argTypes := #[9] }, type := 9, pos := "ref.go:56", after := #[{ on := 30, ground := Ground.data }, { on := 27, ground := Ground.chain }], guard := none }) rfl (fun K hK => ?_) AllReadyH.nil
    go_simp
    go_at_call 21
    (with_reducible refine (h4 _).mono ?_)
    rintro _ wx6 ⟨rfl, hq⟩
    refine hK.out _ _ ?_ (fun hHe6 => ?_)
    · exact hHe5.trans (hq.mono hHe5.size)
    clear hK K hq
    try simp only [Act.put, List.setIfInBounds_toArray, List.set_cons_zero, List.set_cons_succ]
    refine wpAnyH_ready (rs := [7]) (by kernel_rfl) (by simp) ?_
    refine AllReadyH.cons (o := { dst := some 19, op := Op.buildSlice 38 3 #[(0, Operand.tmp 14), (1, Operand.tmp 17), (2, Operand.tmp 18)], type := 38, pos := "ref.go:56", after := #[{ on := 2, ground := Ground.data }, { on := 5, ground := Ground.data }, { on := 6, ground := Ground.data }], guard := none }) rfl (fun K hK => ?_) ?_
    · -- the bytes, behind 6 calls
      go_simp
      refine hK.out _ _ ?_ (fun hHb => ?_)
      · exact hHe6.alloc hHe6.size _
      clear hK K
      try simp only [Act.put, List.setIfInBounds_toArray, List.set_cons_zero, List.set_cons_succ]
      refine wpAnyH_strong (S' := fun wy => Below (wx6.alloc (.cells #[.int .u8 (K : Int), .int .u8 (X : Int), .int .u8 F] 5)).heap.size (wx6.alloc (.cells #[.int .u8 (K : Int), .int .u8 (X : Int), .int .u8 F] 5)) wy) (fun wy h => hHb.trans (h.mono hHb.size)) ?_
      have hHc : Below (wx6.alloc (.cells #[.int .u8 (K : Int), .int .u8 (X : Int), .int .u8 F] 5)).heap.size (wx6.alloc (.cells #[.int .u8 (K : Int), .int .u8 (X : Int), .int .u8 F] 5)) (wx6.alloc (.cells #[.int .u8 (K : Int), .int .u8 (X : Int), .int .u8 F] 5)) := Below.refl _ _
      refine wpAnyH_take (i := 8) (oi := { dst := some 20, op := Op.convert 38 9 (Operand.tmp 19), type := 9, pos := "ref.go:56", after := #[{ on := 7, ground := Ground.data }], guard := none }) (v := ?v74) rfl (by kernel_rfl) (by kernel_rfl) (by kernel_rfl) (fun _ _ _ h => h) (Or.inl ⟨by rfl, ?hy74⟩) hHc ?rest74
      case hy74 => (intro wy hSw; have hcv := HCV.out wx6 _ hSw; go_simp; try (with_reducible rfl))
      try simp only [Act.put, List.setIfInBounds_toArray, List.set_cons_zero, List.set_cons_succ]
      refine wpAnyH_take (i := 12) (oi := { dst := some 24, op := Op.binOp BinOp.add 9 (Operand.tmp 20) (Operand.tmp 23) 9, type := 9, pos := "ref.go:56", after := #[{ on := 8, ground := Ground.data }, { on := 11, ground := Ground.data }], guard := none }) (v := ?v75) rfl (by kernel_rfl) (by kernel_rfl) (by kernel_rfl) (fun _ _ _ h => h) (Or.inl ⟨by rfl, ?hy75⟩) hHc ?rest75
      case hy75 => (intro wy hSw; go_simp; try (with_reducible rfl))
      try simp only [Act.put, List.setIfInBounds_toArray, List.set_cons_zero, List.set_cons_succ]
      refine wpAnyH_take (i := 16) (oi := { dst := some 28, op := Op.binOp BinOp.add 9 (Operand.tmp 24) (Operand.tmp 27) 9, type := 9, pos := "ref.go:56", after := #[{ on := 12, ground := Ground.data }, { on := 15, ground := Ground.data }], guard := none }) (v := ?v76) rfl (by kernel_rfl) (by kernel_rfl) (by kernel_rfl) (fun _ _ _ h => h) (Or.inl ⟨by rfl, ?hy76⟩) hHc ?rest76
      case hy76 => (intro wy hSw; go_simp; try (with_reducible rfl))
      try simp only [Act.put, List.setIfInBounds_toArray, List.set_cons_zero, List.set_cons_succ]
      refine wpAnyH_take (i := 20) (oi := { dst := some 32, op := Op.binOp BinOp.add 9 (Operand.tmp 28) (Operand.tmp 31) 9, type := 9, pos := "ref.go:56", after := #[{ on := 16, ground := Ground.data }, { on := 19, ground := Ground.data }], guard := none }) (v := ?v77) rfl (by kernel_rfl) (by kernel_rfl) (by kernel_rfl) (fun _ _ _ h => h) (Or.inl ⟨by rfl, ?hy77⟩) hHc ?rest77
      case hy77 => (intro wy hSw; go_simp; try (with_reducible rfl))
      try simp only [Act.put, List.setIfInBounds_toArray, List.set_cons_zero, List.set_cons_succ]
      refine wpAnyH_take (i := 24) (oi := { dst := some 36, op := Op.binOp BinOp.add 9 (Operand.tmp 32) (Operand.tmp 35) 9, type := 9, pos := "ref.go:56", after := #[{ on := 20, ground := Ground.data }, { on := 23, ground := Ground.data }], guard := none }) (v := ?v78) rfl (by kernel_rfl) (by kernel_rfl) (by kernel_rfl) (fun _ _ _ h => h) (Or.inl ⟨by rfl, ?hy78⟩) hHc ?rest78
      case hy78 => (intro wy hSw; go_simp; try (with_reducible rfl))
      try simp only [Act.put, List.setIfInBounds_toArray, List.set_cons_zero, List.set_cons_succ]
      refine wpAnyH_take (i := 28) (oi := { dst := some 40, op := Op.binOp BinOp.add 9 (Operand.tmp 36) (Operand.tmp 39) 9, type := 9, pos := "ref.go:56", after := #[{ on := 24, ground := Ground.data }, { on := 27, ground := Ground.data }], guard := none }) (v := ?v79) rfl (by kernel_rfl) (by kernel_rfl) (by kernel_rfl) (fun _ _ _ h => h) (Or.inl ⟨by rfl, ?hy79⟩) hHc ?rest79
      case hy79 => (intro wy hSw; go_simp; try (with_reducible rfl))
      try simp only [Act.put, List.setIfInBounds_toArray, List.set_cons_zero, List.set_cons_succ]
      refine wpAnyH_take (i := 32) (oi := { dst := some 44, op := Op.binOp BinOp.add 9 (Operand.tmp 40) (Operand.tmp 43) 9, type := 9, pos := "ref.go:56", after := #[{ on := 28, ground := Ground.data }, { on := 31, ground := Ground.data }], guard := none }) (v := ?v80) rfl (by kernel_rfl) (by kernel_rfl) (by kernel_rfl) (fun _ _ _ h => h) (Or.inl ⟨by rfl, ?hy80⟩) hHc ?rest80
      case hy80 => (intro wy hSw; go_simp; try (with_reducible rfl))
      try simp only [Act.put, List.setIfInBounds_toArray, List.set_cons_zero, List.set_cons_succ]
      refine wpAnyH_take (i := 33) (oi := { dst := some 2, op := Op.assign (Operand.tmp 44), type := 9, pos := "ref.go:56", after := #[{ on := 32, ground := Ground.data }, { on := 31, ground := Ground.chain }, { on := 0, ground := Ground.phase }, { on := 1, ground := Ground.phase }, { on := 2, ground := Ground.phase }, { on := 3, ground := Ground.phase }, { on := 4, ground := Ground.phase }, { on := 5, ground := Ground.phase }, { on := 6, ground := Ground.phase }, { on := 7, ground := Ground.phase }, { on := 8, ground := Ground.phase }, { on := 9, ground := Ground.phase }, { on := 10, ground := Ground.phase }, { on := 11, ground := Ground.phase }, { on := 12, ground := Ground.phase }, { on := 13, ground := Ground.phase }, { on := 14, ground := Ground.phase }, { on := 15, ground := Ground.phase }, { on := 16, ground := Ground.phase }, { on := 17, ground := Ground.phase }, { on := 18, ground := Ground.phase }, { on := 19, ground := Ground.phase }, { on := 20, ground := Ground.phase }, { on := 21, ground := Ground.phase }, { on := 22, ground := Ground.phase }, { on := 23, ground := Ground.phase }, { on := 24, ground := Ground.phase }, { on := 25, ground := Ground.phase }, { on := 26, ground := Ground.phase }, { on := 27, ground := Ground.phase }, { on := 28, ground := Ground.phase }, { on := 29, ground := Ground.phase }, { on := 30, ground := Ground.phase }, { on := 31, ground := Ground.phase }, { on := 32, ground := Ground.phase }], guard := none }) (v := ?v81) rfl (by kernel_rfl) (by kernel_rfl) (by kernel_rfl) (fun _ _ _ h => h) (Or.inl ⟨by rfl, ?hy81⟩) hHc ?rest81
      case hy81 => (intro wy hSw; go_simp; try (with_reducible rfl))
      try simp only [Act.put, List.setIfInBounds_toArray, List.set_cons_zero, List.set_cons_succ]
      refine wpAnyH_take (i := 34) (oi := { dst := some 3, op := Op.assign (Operand.const (Value.int IntKind.i64 0)), type := 26, pos := "ref.go:56", after := #[{ on := 33, ground := Ground.chain }, { on := 0, ground := Ground.phase }, { on := 1, ground := Ground.phase }, { on := 2, ground := Ground.phase }, { on := 3, ground := Ground.phase }, { on := 4, ground := Ground.phase }, { on := 5, ground := Ground.phase }, { on := 6, ground := Ground.phase }, { on := 7, ground := Ground.phase }, { on := 8, ground := Ground.phase }, { on := 9, ground := Ground.phase }, { on := 10, ground := Ground.phase }, { on := 11, ground := Ground.phase }, { on := 12, ground := Ground.phase }, { on := 13, ground := Ground.phase }, { on := 14, ground := Ground.phase }, { on := 15, ground := Ground.phase }, { on := 16, ground := Ground.phase }, { on := 17, ground := Ground.phase }, { on := 18, ground := Ground.phase }, { on := 19, ground := Ground.phase }, { on := 20, ground := Ground.phase }, { on := 21, ground := Ground.phase }, { on := 22, ground := Ground.phase }, { on := 23, ground := Ground.phase }, { on := 24, ground := Ground.phase }, { on := 25, ground := Ground.phase }, { on := 26, ground := Ground.phase }, { on := 27, ground := Ground.phase }, { on := 28, ground := Ground.phase }, { on := 29, ground := Ground.phase }, { on := 30, ground := Ground.phase }, { on := 31, ground := Ground.phase }, { on := 32, ground := Ground.phase }, { on := 33, ground := Ground.phase }], guard := none }) (v := ?v82) rfl (by kernel_rfl) (by kernel_rfl) (by kernel_rfl) (fun _ _ _ h => h) (Or.inl ⟨by rfl, ?hy82⟩) hHc ?rest82
      case hy82 => (intro wy hSw; go_simp; try (with_reducible rfl))
      try simp only [Act.put, List.setIfInBounds_toArray, List.set_cons_zero, List.set_cons_succ]
      refine wpAnyH_done (by kernel_rfl) ?_ _
      refine NoPanic.normal ?_
      have HZ := Lib.hid (HB1.out.trans ((hHb.trans (hHc.mono hHb.size)).mono HB1.out.size))
      go_wp2_with fail
      go_ret2
      rw [HF.out]
      exact ⟨rfl, HZ.out⟩
    exact AllReadyH.nil
end Go.Proofs.YtgbcbihfaiiolaaDoor
