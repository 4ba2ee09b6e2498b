/- What the document's Digits and Set answer: Digits for any number from 0 on, Set for any cookie with texts of at most 2^20 bytes. -/
import Derived.Test.YtpdilhnbbokipaaDoorCu
import Derived.Test.YtpdilhnbbokipaaDoorCj
import Derived.Test.YtpdilhnbbokipaaDoorCkRead
namespace Go.Proofs.YtpdilhnbbokipaaDoor
set_option maxRecDepth 8000
open Go.RowKit

theorem ret_string {a b : List UInt8} (h : a = b) : Ending.returned (.string (S a)) = .returned (.string (S b)) := by rw [h]
/-- 'string([]byte{u})'. -/
theorem run_one (w : World) (u : UInt8) : (convert 61 9 (.slice (some ⟨w.heap.size, 0, none⟩) 1 1)).run Tryd.prog (w.alloc (.cells #[B u] 5)) = .ok (.string (S [u])) (w.alloc (.cells #[B u] 5)) :=
  run_convert_bytes_back (w.alloc (.cells #[B u] 5)) 61 9 5 ⟨w.heap.size, 0, none⟩ 1 [u] Tryd.underlying61 Tryd.underlying5 Tryd.underlying9
    (fun j hj => by
      have h0 : j = 0 := by simp at hj; exact hj
      subst h0
      exact cell_of_row _ w.heap.size 0 _ _ _ (heap_alloc_new w (.cells #[B u] 5)))
theorem run_add_S' (w : World) (a b : List UInt8) (h : a.length + b.length ≤ 9223372036854775807) : (Op.stringOp .add (S a) (S b)).run Tryd.prog w = .ok (.string (S (a ++ b))) w := by
  have ha : (S a).size = a.length := rfl
  have hb : (S b).size = b.length := rfl
  rw [run_string_add_sum w _ _ (by omega), S_append]
set_option maxHeartbeats 400000 in
theorem refDigits_any (n0 : Nat) (w : World) (hn : n0 ≤ 9223372036854775807) :
    Calls Tryd.prog 41 #[.int .i64 n0] w (Told w (.returned (.string (S (Lib.decDigits n0))))) := by
  go_enter Tryd.func41, Tryd.ntmps41
  go_wp2
  go_loopw [0, 3] (fun i v wr => ∃ (n : Nat) (acc : List UInt8), i = .int .i64 n ∧ v = .string (S acc) ∧ 9 * acc.length + n ≤ n0 ∧ Lib.decDigits n0 = Lib.decDigits n ++ acc ∧ Below w.heap.size w wr) (fun i _ _ => (intOf i).toNat)
  case atStart => exact ⟨n0, [], rfl, rfl, by simp, by simp, Below.refl _ _⟩
  case round =>
    obtain ⟨n, acc, rfl, rfl, hal, hd, hb⟩ := hrel
    have hbs := hb.size
    have HD := Lib.hid hd
    clear hd
    by_cases hlt : n ≤ 9
    · have HN := Lib.hid (Ck.dec_few (show n < 10 by omega))
      have a1 := fun w' : World => run_add_S' w' [UInt8.ofNat (48 + n)] acc (by simp; omega)
      have a2 := run_one wr (UInt8.ofNat (48 + n))
      unfold B at a2
      rw [show (((UInt8.ofNat (48 + n)).toNat : Nat) : Int) = 48 + (n : Int) by rw [UInt8.toNat_ofNat']; omega] at a2
      have w1 : IntKind.u8.wrap (48 + (n : Int)) = 48 + (n : Int) := IntWalk.u8_in _ (by omega)
      obtain ⟨c, hc⟩ : ∃ c, c = UInt8.ofNat (48 + n) := ⟨_, rfl⟩
      rw [← hc] at a1 a2 HN
      clear hc
      go_wp2
      go_ret
      refine ⟨ret_string ?_, hb.alloc hbs _⟩
      rw [HD.out, HN.out]
      rfl
    · have HN := Lib.hid (Ck.dec_more (show ¬ n < 10 by omega))
      have a1 := fun w' : World => run_add_S' w' [UInt8.ofNat (48 + n % 10)] acc (by simp; omega)
      have a2 := run_one wr (UInt8.ofNat (48 + n % 10))
      have e1 : (n : Int).tmod 10 = ((n % 10 : Nat) : Int) := by rw [Int.tmod_eq_emod_of_nonneg (by omega)]; omega
      have e1' : (n : Int) % 10 = ((n % 10 : Nat) : Int) := by omega
      have e2 : (n : Int).tdiv 10 = ((n / 10 : Nat) : Int) := by rw [Int.tdiv_eq_ediv_of_nonneg (by omega)]; omega
      have e2' : (n : Int) / 10 = ((n / 10 : Nat) : Int) := by omega
      unfold B at a2
      rw [show (((UInt8.ofNat (48 + n % 10)).toNat : Nat) : Int) = 48 + ((n % 10 : Nat) : Int) by rw [UInt8.toNat_ofNat']; omega] at a2
      obtain ⟨x, hx⟩ : ∃ x, x = n % 10 := ⟨_, rfl⟩
      rw [← hx] at a1 a2 e1 e1' HN
      have hx9 : x ≤ 9 := by omega
      clear hx
      obtain ⟨y, hy⟩ : ∃ y, y = n / 10 := ⟨_, rfl⟩
      rw [← hy] at e2 e2' HN
      have hyn : 9 * 1 + y ≤ n := by omega
      clear hy
      have w1 : IntKind.u8.wrap (48 + (x : Int)) = 48 + (x : Int) := IntWalk.u8_in _ (by omega)
      obtain ⟨c, hc⟩ : ∃ c, c = UInt8.ofNat (48 + x) := ⟨_, rfl⟩
      rw [← hc] at a1 a2 HN
      clear hc
      go_wp2
      go_roundw
      case rel => exact ⟨y, [c] ++ acc, by go_num, rfl, by simp; omega, by rw [HD.out, HN.out]; simp, hb.alloc hbs _⟩
      case measure => simp [intOf]; omega

theorem refDigits_age (n : Int) (w : World) (h0 : 0 ≤ n) (h1 : n ≤ 9223372036854775807) :
    Calls Tryd.prog 41 #[.int .i64 n] w (Told w (.returned (.string (S (Lib.decDigits n.toNat))))) := by
  obtain ⟨k, rfl⟩ : ∃ k : Nat, n = (k : Int) := ⟨n.toNat, by omega⟩
  exact refDigits_any k w (by omega)

set_option maxHeartbeats 3200000 in
theorem refSet_any (c : Ck.C) (w : World) (hc : Small2 c) :
    Calls Tryd.prog 18 #[cV c] w fun e w' => e = setRes c ∧ Below w.heap.size w w' := by
  have HSM := Lib.hid hc.small
  obtain ⟨hn, hv, hp⟩ := hc
  have b0 := Blk6.new w c
  have hb0 : Below w.heap.size w (w.alloc (.cells #[.string (S c.name), .string (S c.val), .string (S c.path), .int .i64 c.age, .bool c.sec, .bool c.http] 32)) := (Below.refl _ _).alloc (Nat.le_refl _) _
  have d0 := b0.c0
  have d1 := b0.c1
  have d2 := b0.c2
  have d3 := b0.c3
  have d4 := b0.c4
  have d5 := b0.c5
  go_enter Tryd.func18, Tryd.ntmps18
  go_wp2_with fail
  refine (refRight_any c _ HSM.out).mono ?_
  rintro e w1 ⟨rfl, hb1⟩
  have b1 : Blk6 w1 w.heap.size c := b0.below hb1 (by simp)
  have hbw : Below w.heap.size w w1 := hb0.trans (hb1.mono (by simp))
  clear b0 hb0 hb1 d0 d1 d2 d3 d4 d5
  have d0 := b1.c0
  have d1 := b1.c1
  have d2 := b1.c2
  have d3 := b1.c3
  have d4 := b1.c4
  have d5 := b1.c5
  have hgl := b1.lt
  cases hr : Ck.right c with
  | false =>
    have HR := Lib.hid (show setRes c = .returned (.tuple #[.string ⟨#[]⟩, .int .i64 1]) by unfold setRes; rw [hr]; rfl)
    clear hr
    go_wp2
    go_ret2
    exact ⟨HR.out.symm, hbw⟩
  | true =>
    have hage := right_age hr
    have ha1 := hage.1
    have ha2 := hage.2
    have HR := Lib.hid (show setRes c = .returned (.tuple #[.string (S (Ck.set c)), .int .i64 0]) by unfold setRes; rw [hr]; rfl)
    clear hr hage
    have HS := Lib.hid (show Ck.set c = c.name ++ [61] ++ c.val ++ Ck.pathM ++ c.path ++ Ck.ageT c.age ++ Ck.secT c.sec ++ Ck.httpT c.http from rfl)
    have a1 := fun w' : World => (show (Op.stringOp .add (S c.name) ⟨#[61]⟩).run Tryd.prog w' = .ok (.string (S (c.name ++ [61]))) w' from run_add_S w' c.name [61] (by simp; omega))
    have l1 : (c.name ++ [61]).length ≤ 1048600 := by simp; omega
    obtain ⟨y1, hy1⟩ : ∃ y1, y1 = c.name ++ [61] := ⟨_, rfl⟩
    rw [← hy1] at a1 l1 HS
    clear hy1
    have a2 := fun w' : World => run_add_S w' y1 c.val (by omega)
    have l2 : (y1 ++ c.val).length ≤ 2097200 := by simp; omega
    obtain ⟨y2, hy2⟩ : ∃ y2, y2 = y1 ++ c.val := ⟨_, rfl⟩
    rw [← hy2] at a2 l2 HS
    clear hy2
    have a3 := fun w' : World => (show (Op.stringOp .add (S y2) ⟨#[59, 32, 80, 97, 116, 104, 61]⟩).run Tryd.prog w' = .ok (.string (S (y2 ++ Ck.pathM))) w' from run_add_S w' y2 Ck.pathM (by show _ + 7 ≤ _; omega))
    have l3 : (y2 ++ Ck.pathM).length ≤ 2097300 := by rw [List.length_append]; show _ + 7 ≤ _; omega
    obtain ⟨y3, hy3⟩ : ∃ y3, y3 = y2 ++ Ck.pathM := ⟨_, rfl⟩
    rw [← hy3] at a3 l3 HS
    clear hy3
    have a4 := fun w' : World => run_add_S w' y3 c.path (by omega)
    have l4 : (y3 ++ c.path).length ≤ 3145900 := by simp; omega
    obtain ⟨y4, hy4⟩ : ∃ y4, y4 = y3 ++ c.path := ⟨_, rfl⟩
    rw [← hy4] at a4 l4 HS
    clear hy4
    by_cases hage : c.age = -1
    · have e0 : c.age < 0 := by omega
      rw [show Ck.ageT c.age = [] by unfold Ck.ageT; rw [if_pos hage], List.append_nil] at HS
      clear hage
      have a6 := fun w' : World => (show (Op.stringOp .add (S y4) ⟨#[59, 32, 83, 101, 99, 117, 114, 101]⟩).run Tryd.prog w' = .ok (.string (S (y4 ++ Ck.secM))) w' from run_add_S w' y4 Ck.secM (by show _ + 8 ≤ _; omega))
      have l6 : (y4 ++ Ck.secM).length ≤ 3146000 := by rw [List.length_append]; show _ + 8 ≤ _; omega
      cases hs : c.sec with
      | true =>
        rw [hs] at HS d4
        rw [show Ck.secT true = Ck.secM from rfl] at HS
        obtain ⟨y6, hy6⟩ : ∃ y6, y6 = y4 ++ Ck.secM := ⟨_, rfl⟩
        rw [← hy6] at a6 l6 HS
        clear hy6 hs
        have a7 := fun w' : World => (show (Op.stringOp .add (S y6) ⟨#[59, 32, 72, 116, 116, 112, 79, 110, 108, 121]⟩).run Tryd.prog w' = .ok (.string (S (y6 ++ Ck.httpM))) w' from run_add_S w' y6 Ck.httpM (by show _ + 10 ≤ _; omega))
        cases hh : c.http with
        | true =>
          rw [hh] at HS d5
          rw [show Ck.httpT true = Ck.httpM from rfl] at HS
          obtain ⟨y7, hy7⟩ : ∃ y7, y7 = y6 ++ Ck.httpM := ⟨_, rfl⟩
          rw [← hy7] at a7 HS
          clear hy7 hh
          go_wp2
          go_ret2
          exact ⟨by rw [HR.out, HS.out]; rfl, hbw⟩
        | false =>
          rw [hh] at HS d5
          rw [show Ck.httpT false = [] from rfl, List.append_nil] at HS
          clear hh a7
          go_wp2
          go_ret2
          exact ⟨by rw [HR.out, HS.out]; rfl, hbw⟩
      | false =>
        rw [hs] at HS d4
        rw [show Ck.secT false = [] from rfl, List.append_nil] at HS
        clear hs a6 l6
        have a7 := fun w' : World => (show (Op.stringOp .add (S y4) ⟨#[59, 32, 72, 116, 116, 112, 79, 110, 108, 121]⟩).run Tryd.prog w' = .ok (.string (S (y4 ++ Ck.httpM))) w' from run_add_S w' y4 Ck.httpM (by show _ + 10 ≤ _; omega))
        cases hh : c.http with
        | true =>
          rw [hh] at HS d5
          rw [show Ck.httpT true = Ck.httpM from rfl] at HS
          obtain ⟨y7, hy7⟩ : ∃ y7, y7 = y4 ++ Ck.httpM := ⟨_, rfl⟩
          rw [← hy7] at a7 HS
          clear hy7 hh
          go_wp2
          go_ret2
          exact ⟨by rw [HR.out, HS.out]; rfl, hbw⟩
        | false =>
          rw [hh] at HS d5
          rw [show Ck.httpT false = [] from rfl, List.append_nil] at HS
          clear hh a7
          go_wp2
          go_ret2
          exact ⟨by rw [HR.out, HS.out]; rfl, hbw⟩
    · have e0 : 0 ≤ c.age := by omega
      rw [show Ck.ageT c.age = Ck.ageM ++ Lib.decDigits c.age.toNat by unfold Ck.ageT; rw [if_neg hage]] at HS
      have ha0 : 0 ≤ c.age := by omega
      have ld := dec_len c.age ha2
      have hI := fun w' => refDigits_age c.age w' ha0 (by omega)
      clear hage
      obtain ⟨dg, hdg⟩ : ∃ dg, dg = Lib.decDigits c.age.toNat := ⟨_, rfl⟩
      rw [← hdg] at HS ld hI
      clear hdg
      rw [← List.append_assoc y4] at HS
      have a5 := fun w' : World => (show (Op.stringOp .add (S y4) ⟨#[59, 32, 77, 97, 120, 45, 65, 103, 101, 61]⟩).run Tryd.prog w' = .ok (.string (S (y4 ++ Ck.ageM))) w' from run_add_S w' y4 Ck.ageM (by show _ + 10 ≤ _; omega))
      have l5 : (y4 ++ Ck.ageM).length ≤ 3146000 := by rw [List.length_append]; show _ + 10 ≤ _; omega
      obtain ⟨z, hz⟩ : ∃ z, z = y4 ++ Ck.ageM := ⟨_, rfl⟩
      rw [← hz] at a5 l5 HS
      clear hz
      have a5' := fun w' : World => run_add_S w' z dg (by omega)
      have l5' : (z ++ dg).length ≤ 3146100 := by simp; omega
      obtain ⟨y5, hy5⟩ : ∃ y5, y5 = z ++ dg := ⟨_, rfl⟩
      rw [← hy5] at a5' l5' HS
      clear hy5
      go_wp2_with fail
      refine (hI w1).mono ?_
      rintro e w2 ⟨rfl, hb2⟩
      have b2 : Blk6 w2 w.heap.size c := b1.below hb2 hgl
      have hbw2 : Below w.heap.size w w2 := hbw.trans (hb2.mono hbw.size)
      clear d0 d1 d2 d3 d4 d5 hb2 b1 hgl hI
      have d4 := b2.c4
      have d5 := b2.c5
      have a6 := fun w' : World => (show (Op.stringOp .add (S y5) ⟨#[59, 32, 83, 101, 99, 117, 114, 101]⟩).run Tryd.prog w' = .ok (.string (S (y5 ++ Ck.secM))) w' from run_add_S w' y5 Ck.secM (by show _ + 8 ≤ _; omega))
      have l6 : (y5 ++ Ck.secM).length ≤ 3146200 := by rw [List.length_append]; show _ + 8 ≤ _; omega
      cases hs : c.sec with
      | true =>
        rw [hs] at HS d4
        rw [show Ck.secT true = Ck.secM from rfl] at HS
        obtain ⟨y6, hy6⟩ : ∃ y6, y6 = y5 ++ Ck.secM := ⟨_, rfl⟩
        rw [← hy6] at a6 l6 HS
        clear hy6 hs
        have a7 := fun w' : World => (show (Op.stringOp .add (S y6) ⟨#[59, 32, 72, 116, 116, 112, 79, 110, 108, 121]⟩).run Tryd.prog w' = .ok (.string (S (y6 ++ Ck.httpM))) w' from run_add_S w' y6 Ck.httpM (by show _ + 10 ≤ _; omega))
        cases hh : c.http with
        | true =>
          rw [hh] at HS d5
          rw [show Ck.httpT true = Ck.httpM from rfl] at HS
          obtain ⟨y7, hy7⟩ : ∃ y7, y7 = y6 ++ Ck.httpM := ⟨_, rfl⟩
          rw [← hy7] at a7 HS
          clear hy7 hh
          go_wp2
          go_ret2
          exact ⟨by rw [HR.out, HS.out]; rfl, hbw2⟩
        | false =>
          rw [hh] at HS d5
          rw [show Ck.httpT false = [] from rfl, List.append_nil] at HS
          clear hh a7
          go_wp2
          go_ret2
          exact ⟨by rw [HR.out, HS.out]; rfl, hbw2⟩
      | false =>
        rw [hs] at HS d4
        rw [show Ck.secT false = [] from rfl, List.append_nil] at HS
        clear hs a6 l6
        have a7 := fun w' : World => (show (Op.stringOp .add (S y5) ⟨#[59, 32, 72, 116, 116, 112, 79, 110, 108, 121]⟩).run Tryd.prog w' = .ok (.string (S (y5 ++ Ck.httpM))) w' from run_add_S w' y5 Ck.httpM (by show _ + 10 ≤ _; omega))
        cases hh : c.http with
        | true =>
          rw [hh] at HS d5
          rw [show Ck.httpT true = Ck.httpM from rfl] at HS
          obtain ⟨y7, hy7⟩ : ∃ y7, y7 = y5 ++ Ck.httpM := ⟨_, rfl⟩
          rw [← hy7] at a7 HS
          clear hy7 hh
          go_wp2
          go_ret2
          exact ⟨by rw [HR.out, HS.out]; rfl, hbw2⟩
        | false =>
          rw [hh] at HS d5
          rw [show Ck.httpT false = [] from rfl, List.append_nil] at HS
          clear hh a7
          go_wp2
          go_ret2
          exact ⟨by rw [HR.out, HS.out]; rfl, hbw2⟩
end Go.Proofs.YtpdilhnbbokipaaDoor
