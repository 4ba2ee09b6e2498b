/- What the document's Right, eight and text answer, for any record with a name and a parent of at most 2^30 bytes. -/
import Derived.Test.YtfeaonbeklmfgaaGreatDoorRkH
namespace Go.Proofs.YtfeaonbeklmfgaaGreatDoor
set_option maxRecDepth 8000
open Go.RowKit

set_option maxHeartbeats 3200000 in
theorem refRight13_any (r : Rk.R) (hn : r.name.length ≤ 1073741824) (hp : r.parent.length ≤ 1073741824) (w : World) :
    Calls Tryz.prog 39 #[recV r] w fun e w' => e = .returned (.bool (Rk.right r)) ∧ Below w.heap.size w w' := by
  have HC := recAt_alloc w r
  have hN := fun w' => refParse_any r.name hn w'
  have hP := fun w' => refParse_any r.parent hp w'
  have hC := fun o w' => refComes_any r.kind o w'
  have HR : Hid (Rk.right r = (Rk.okName r && Rk.okParent r && Rk.okRest r)) := Lib.hid rfl
  have hS := S_empty r.parent
  unfold Rk.okName Rk.okParent Rk.okRest at HR
  unfold tellV at hN hP
  generalize (Tk.tell r.name).2.2 = q1 at hN HR
  generalize (Tk.tell r.name).2.1 = q2 at hN
  generalize (Tk.tell r.name).1 = q3 at hN HR
  generalize (Tk.tell r.parent).2.2 = q4 at hP HR
  generalize (Tk.tell r.parent).2.1 = q5 at hP
  generalize (Tk.tell r.parent).1 = q6 at hP HR
  have hC6 := fun w' => hC (q6 : Int) w'
  generalize Rk.comes r.kind (q6 : Int) = c at hC6 HR
  generalize r.parent.isEmpty = m at hS HR
  generalize Rk.right r = q at HR ⊢
  obtain ⟨kind, name, parent, user, service, url, made, used, uses, fresh⟩ := r
  dsimp only at hn hp hN hP hC6 HR hS
  unfold recCs at HC
  dsimp only at HC
  unfold recV
  dsimp only
  obtain ⟨wb, hwb⟩ : ∃ wb, wb = w.alloc (.cells #[.int .i64 kind, .string (S name), .string (S parent), .string (S user), .string (S service), .string (S url), .int .i64 made, .int .i64 used, .int .i64 uses, .bool fresh] 30) := ⟨_, rfl⟩
  have hbb : Below w.heap.size w wb := by rw [hwb]; exact (Below.refl _ _).alloc (Nat.le_refl _) _
  have hsz : wb.heap.size = w.heap.size + 1 := by rw [hwb]; simp
  rw [← hwb, ← hsz] at HC
  have su : (S user).size = user.length := rfl
  have ss : (S service).size = service.length := rfl
  have sl : (S url).size = url.length := rfl
  obtain ⟨c0, c1, c2, c3, c4, c5, c6, c7, c8, -⟩ := HC.out wb (Below.refl _ _)
  clear hC
  go_enter Tryz.func39, Tryz.ntmps39
  go_upto_region 1 with fail
  rw [← hwb]
  clear hwb hsz HC hn hp
  go_upto_region 2 with (go_at_call 60; with_reducible refine (hN _).mono ?_; rintro e w' ⟨rfl, rfl⟩)
  by_cases h1 : q1 = true ∧ (q3 : Int) = kind
  case neg =>
    have h2 : q1 = false ∨ (q1 = true ∧ ((q3 : Int) != kind) = true) := by
      cases q1 with
      | false => exact .inl rfl
      | true => exact .inr ⟨rfl, by simpa using fun h => h1 ⟨rfl, h⟩⟩
    have hq : Hid (q = false) := Lib.hid (by rw [HR.out]; rcases h2 with rfl | ⟨rfl, h⟩ <;> simp_all)
    clear h1 HR hP hC6 su ss sl
    rcases h2 with rfl | ⟨rfl, h⟩ <;>
      (go_wp2_with fail
       go_ret
       exact ⟨ret_bool hq.out.symm, hbb⟩)
  case pos =>
  obtain ⟨rfl, rfl⟩ := h1
  have hne : ((q3 : Int) != (q3 : Int)) = false := by simp
  by_cases h3 : user.length ≤ 32 ∧ service.length ≤ 100 ∧ url.length ≤ 100 ∧ 0 ≤ made ∧ made ≤ used ∧ used ≤ 1099511627776 ∧ 0 ≤ uses ∧ uses ≤ 255
  case neg =>
    have hq : Hid (q = false) := Lib.hid (by rw [HR.out, decide_eq_false h3]; simp)
    have h4 : (32 : Int) < ((S user).size : Int) ∨ (¬ (32 : Int) < ((S user).size : Int) ∧ (100 : Int) < ((S service).size : Int)) ∨ (¬ (32 : Int) < ((S user).size : Int) ∧ ¬ (100 : Int) < ((S service).size : Int) ∧ (100 : Int) < ((S url).size : Int)) ∨
        ((¬ (32 : Int) < ((S user).size : Int) ∧ ¬ (100 : Int) < ((S service).size : Int) ∧ ¬ (100 : Int) < ((S url).size : Int)) ∧ (made < 0 ∨ (¬ made < 0 ∧ used < made) ∨ (¬ made < 0 ∧ ¬ used < made ∧ (1099511627776 : Int) < used) ∨ (¬ made < 0 ∧ ¬ used < made ∧ ¬ (1099511627776 : Int) < used ∧ uses < 0) ∨ (¬ made < 0 ∧ ¬ used < made ∧ ¬ (1099511627776 : Int) < used ∧ ¬ uses < 0 ∧ (255 : Int) < uses))) := by rw [su, ss, sl]; omega
    clear su ss sl
    clear h3 HR
    rcases h4 with h | ⟨k1, h⟩ | ⟨k1, k2, h⟩ | ⟨⟨k1, k2, k3⟩, h⟩
    · go_wp2_with fail
      go_ret
      exact ⟨ret_bool hq.out.symm, hbb⟩
    · go_wp2_with fail
      go_ret
      exact ⟨ret_bool hq.out.symm, hbb⟩
    · go_wp2_with fail
      go_ret
      exact ⟨ret_bool hq.out.symm, hbb⟩
    · rcases h with h | ⟨k4, h⟩ | ⟨k4, k5, h⟩ | ⟨k4, k5, k6, h⟩ | ⟨k4, k5, k6, k7, h⟩ <;>
        (go_wp2_with fail
         all_goals
           go_ret
           exact ⟨ret_bool hq.out.symm, hbb⟩)
  case pos =>
    obtain ⟨i1, i2, i3, i4, i5, i6, i7, i8⟩ := h3
    have hq : Hid (q = ((q4 || m) && c)) := Lib.hid (by rw [HR.out]; simp [i1, i2, i3, i4, i5, i6, i7, i8])
    have j1 : ¬ (32 : Int) < ((S user).size : Int) := by rw [su]; omega
    have j2 : ¬ (100 : Int) < ((S service).size : Int) := by rw [ss]; omega
    have j3 : ¬ (100 : Int) < ((S url).size : Int) := by rw [sl]; omega
    have j4 : ¬ made < 0 := by omega
    have j5 : ¬ used < made := by omega
    have j6 : ¬ (1099511627776 : Int) < used := by omega
    have j7 : ¬ uses < 0 := by omega
    have j8 : ¬ (255 : Int) < uses := by omega
    clear HR i1 i2 i3 i4 i5 i6 i7 i8 su ss sl
    cases q4 <;> cases m <;>
      (go_wp2_with (first
         | (go_at_call 60; with_reducible refine (hP _).mono ?_; rintro e w' ⟨rfl, rfl⟩)
         | (go_at_call 61; with_reducible refine (hC6 _).mono ?_; rintro e w4 ⟨rfl, hq4⟩))
       go_ret
       first
         | exact ⟨ret_bool (by rw [hq.out]; simp; done), hbb.trans (hq4.mono hbb.size)⟩
         | exact ⟨ret_bool (by rw [hq.out]; simp; done), hbb⟩
         | (exfalso; omega))
/-- One byte as a text. -/
theorem conv_one (w : World) (x : Int) (c : UInt8) (h : x = (c.toNat : Int)) : (convert 94 9 (.slice (some ⟨w.heap.size, 0, none⟩) 1 1)).run Tryz.prog (w.alloc (.cells #[.int .u8 x] 5)) = .ok (.string (S [c])) (w.alloc (.cells #[.int .u8 x] 5)) := by
  have hr : Row w.heap.size (w.alloc (.cells #[.int .u8 x] 5)) (.slice (some ⟨w.heap.size, 0, none⟩) 1 1) [c] := by
    rw [h]
    exact ⟨rfl, .inr ⟨w.heap.size, 1, _, rfl, Nat.le_refl _, heap_alloc_new w _, Nat.le_refl _, by unfold maxLen; omega, rfl, rfl⟩⟩
  exact row_string hr
set_option maxHeartbeats 800000 in
theorem refText13_any (s : List UInt8) (hl : s.length ≤ 255) (w : World) :
    Calls Tryz.prog 69 #[.string (S s)] w fun e w' => e = .returned (.string (S (Rk.txt s))) ∧ Below w.heap.size w w' := by
  have hx : (s.length : Int) = ((UInt8.ofNat s.length).toNat : Int) := by rw [UInt8.toNat_ofNat']; omega
  have hcv := conv_one w _ _ hx
  have hb : Below w.heap.size w (w.alloc (.cells #[.int .u8 (s.length : Int)] 5)) := (Below.refl _ _).alloc (Nat.le_refl _) _
  have ha : ∀ w, (Op.stringOp .add (S [UInt8.ofNat s.length]) (S s)).run Tryz.prog w = .ok (.string (S (Rk.txt s))) w := fun w => run_add_S w [UInt8.ofNat s.length] s (by simp; omega)
  have hsz : ((S s).size : Int) = (s.length : Int) := rfl
  have h256 : (s.length : Int) % 256 = (s.length : Int) := by omega
  clear hx
  go_enter Tryz.func69, Tryz.ntmps69
  go_wp2_with fail
  go_ret
  exact ⟨rfl, hb⟩
set_option maxHeartbeats 1600000 in
theorem refEight_any (n : Nat) (hn : n < 9223372036854775808) (w : World) :
    Calls Tryz.prog 68 #[.int .i64 (n : Int)] w fun e w' => e = .returned (.string (S (Rk.be 8 n))) ∧ Below w.heap.size w w' := by
  go_enter Tryz.func68, Tryz.ntmps68
  go_wp2_with fail
  go_loopw [0, 3, 4] (fun nv sv iv wr => ∃ j : Nat, j ≤ 8 ∧ iv = .int .i64 (j : Int) ∧ nv = .int .i64 ((n / 256 ^ j : Nat) : Int) ∧ sv = .string (S (Rk.be j n)) ∧ Below w.heap.size w wr) (fun _ _ iv _ => 8 - (intOf iv).toNat)
  case atStart => exact ⟨0, Nat.zero_le _, rfl, by simp, rfl, Below.refl _ _⟩
  case round =>
    obtain ⟨j, hj, rfl, rfl, rfl, hb⟩ := hrel
    by_cases hlt : j < 8
    · have hN : Hid (n / 256 ^ (j + 1) = n / 256 ^ j / 256) := Lib.hid (by rw [Nat.pow_succ, Nat.div_div_eq_div_mul])
      have HBE : Hid (Rk.be (j + 1) n = UInt8.ofNat (n / 256 ^ j) :: Rk.be j n) := Lib.hid rfl
      have hle : n / 256 ^ j < 9223372036854775808 := Nat.lt_of_le_of_lt (Nat.div_le_self _ _) hn
      generalize n / 256 ^ j = m at hN HBE hle ⊢
      have hx : ((m : Int) % 256) = ((UInt8.ofNat m).toNat : Int) := by rw [UInt8.toNat_ofNat']; omega
      have hcv := conv_one wr _ _ hx
      have hbl := Rk.be_len j n
      generalize Rk.be j n = x at HBE hbl ⊢
      have ha : ∀ w, (Op.stringOp .add (S [UInt8.ofNat m]) (S x)).run Tryz.prog w = .ok (.string (S (UInt8.ofNat m :: x))) w := fun w => run_add_S w [UInt8.ofNat m] x (by simp; omega)
      have hba : Below w.heap.size w (wr.alloc (.cells #[.int .u8 ((m : Int) % 256)] 5)) := hb.alloc hb.size _
      have hkI : (j : Int) < 8 := by omega
      have ht : Int.tmod (m : Int) 256 = (m : Int) % 256 := by rw [Int.tmod_eq_emod_of_nonneg (by omega)]
      have hd : Int.tdiv (m : Int) 256 = ((m / 256 : Nat) : Int) := by rw [Int.tdiv_eq_ediv_of_nonneg (by omega)]; omega
      clear hx
      go_wp2_with fail
      go_roundw
      case rel => exact ⟨j + 1, by omega, by go_num, by rw [hN.out]; simp, by rw [HBE.out], hba⟩
      case measure => simp [intOf]; omega
    · have hj8 : j = 8 := by omega
      subst hj8
      go_wp2_with fail
      go_ret
      exact ⟨rfl, hb⟩
end Go.Proofs.YtfeaonbeklmfgaaGreatDoor
