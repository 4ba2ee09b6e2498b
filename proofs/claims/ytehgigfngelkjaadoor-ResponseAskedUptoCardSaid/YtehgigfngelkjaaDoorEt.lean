/- What the document's Write of responses answers, for any response with texts of at most 2^30 bytes. -/
import Derived.Test.YtehgigfngelkjaaDoorEs
namespace Go.Proofs.YtehgigfngelkjaaDoor
set_option maxRecDepth 8000
open Go.RowKit

theorem keep2 {w1 w' : World} {B : Nat} {v : Value} (h : Below w1.heap.size w1 w') (hB : B < w1.heap.size) (d1 : w1.cell? ⟨B, 2, none⟩ = some v) : w'.cell? ⟨B, 2, none⟩ = some v ∧ Below w1.heap.size w1 w' :=
  ⟨(h.cell (p := ⟨B, 2, none⟩) hB).trans d1, h⟩
theorem write_parts (s : Int) (l : List Pct.PairL) (b : List UInt8) : Rsp.write s l b = Rsp.first s ++ Rsp.hds l ++ [67, 111, 110, 116, 101, 110, 116, 45, 76, 101, 110, 103, 116, 104, 58, 32] ++ Lib.decDigits b.length ++ [13, 10, 13, 10] ++ b := by
  unfold Rsp.write Rsp.all Rsp.hds
  rw [List.flatMap_append]
  simp [Rsp.hd, Rsp.lenName]

set_option maxHeartbeats 1600000 in
theorem refWrite_any (s : Int) (A : Option Addr) (cap : Nat) (l : List Pct.PairL) (b : List UInt8) (w : World) (hl : PCells w w.heap.size A l) (hq : ∀ k (h : k < l.length), l[k].1.length ≤ 1073741824 ∧ l[k].2.length ≤ 1073741824) :
    Calls Tryd.prog 12 #[rspV s (.slice A l.length cap) b] w fun e w' => e = .returned (writeRes s l b) ∧ Below w.heap.size w w' := by
  have hR := fun w' h => refRight_any s A cap l b w' h hq
  unfold rspV at hR ⊢
  go_enter Tryd.func12, Tryd.ntmps12
  go_upto_region 1 with fail
  have B0 : BlkR (w.alloc (.cells #[.int .i64 s, .slice A l.length cap, .string (S b)] 24)) w.heap.size (.int .i64 s) (.slice A l.length cap) (.string (S b)) := heap_alloc_new w _
  have hb0 : Below w.heap.size w (w.alloc (.cells #[.int .i64 s, .slice A l.length cap, .string (S b)] 24)) := (Below.refl _ _).alloc (Nat.le_refl _) _
  have hl0 := hl.next hb0
  have hs0 : w.heap.size < (w.alloc (.cells #[.int .i64 s, .slice A l.length cap, .string (S b)] 24)).heap.size := by simp
  generalize (w.alloc (.cells #[.int .i64 s, .slice A l.length cap, .string (S b)] 24)) = w0 at B0 hb0 hl0 hs0 ⊢
  have c0 := B0.c0
  have c1 := B0.c1
  have c2 := B0.c2
  go_wp2_with fail
  refine (hR w0 hl0).mono ?_
  rintro e w1 ⟨rfl, hb1⟩
  have B1 : BlkR w1 w.heap.size (.int .i64 s) (.slice A l.length cap) (.string (S b)) := (hb1.block _ hs0).trans B0
  have hl1 := hl0.next hb1
  have hs1 : w.heap.size < w1.heap.size := Nat.lt_of_lt_of_le hs0 hb1.size
  have hbw1 : Below w.heap.size w w1 := hb0.trans (hb1.mono hb0.size)
  clear c0 c1 c2 hl hl0 hb0 B0 hb1 hR hs0
  have c0 := B1.c0
  cases hr : Rsp.right s l b with
  | false =>
    have HR := Lib.hid (show writeRes s l b = .tuple #[.string ⟨#[]⟩, .int .i64 1] by unfold writeRes; rw [hr, if_neg (by decide)])
    clear hr
    go_wp2
    go_ret2
    exact ⟨by rw [HR.out]; rfl, hbw1⟩
  | true =>
    obtain ⟨p0, p1, p2, p3, p4⟩ := right_parts hr
    have HR := Lib.hid (show writeRes s l b = .tuple #[.string (S (Rsp.write s l b)), .int .i64 0] by unfold writeRes; rw [hr, if_pos rfl])
    have HWR := Lib.hid (write_parts s l b)
    have HQ := Lib.hid (show ∀ q ∈ l, q.1.length ≤ 1073741824 ∧ q.2.length ≤ 1073741824 from fun q hq' => by
      obtain ⟨k, hk, rfl⟩ := List.getElem_of_mem hq'
      exact hq k hk)
    clear hr hq
    have hD := fun w' : World => refDigits_age s w' p0 (by omega)
    have hRs := fun w' : World => refReason_any s w'
    have hDl : (Lib.decDigits s.toNat).length ≤ 100 := dec_len s (by omega)
    have HFI := Lib.hid (show Rsp.first s = [72, 84, 84, 80, 47, 49, 46, 49, 32] ++ Lib.decDigits s.toNat ++ [32] ++ Rsp.reason s ++ [13, 10] from rfl)
    generalize Lib.decDigits s.toNat = D at hD hDl HFI
    generalize Rsp.reason s = R at hRs p2 HFI
    have a1 := fun w' : World => (show (Op.stringOp .add ⟨#[72, 84, 84, 80, 47, 49, 46, 49, 32]⟩ (S D)).run Tryd.prog w' = .ok (.string (S ([72, 84, 84, 80, 47, 49, 46, 49, 32] ++ D))) w' from run_add_S w' [72, 84, 84, 80, 47, 49, 46, 49, 32] D (by simp; omega))
    have a2 := fun w' : World => (show (Op.stringOp .add (S ([72, 84, 84, 80, 47, 49, 46, 49, 32] ++ D)) ⟨#[32]⟩).run Tryd.prog w' = .ok (.string (S ([72, 84, 84, 80, 47, 49, 46, 49, 32] ++ D ++ [32]))) w' from run_add_S w' _ [32] (by simp; omega))
    have a3 := fun w' : World => run_add_S w' ([72, 84, 84, 80, 47, 49, 46, 49, 32] ++ D ++ [32]) R (by simp; omega)
    have a4 := fun w' : World => (show (Op.stringOp .add (S ([72, 84, 84, 80, 47, 49, 46, 49, 32] ++ D ++ [32] ++ R)) ⟨#[13, 10]⟩).run Tryd.prog w' = .ok (.string (S ([72, 84, 84, 80, 47, 49, 46, 49, 32] ++ D ++ [32] ++ R ++ [13, 10]))) w' from run_add_S w' _ [13, 10] (by simp; omega))
    have hFl : ([72, 84, 84, 80, 47, 49, 46, 49, 32] ++ D ++ [32] ++ R ++ [13, 10] : List UInt8).length ≤ 1000 := by simp; omega
    generalize ([72, 84, 84, 80, 47, 49, 46, 49, 32] ++ D ++ [32] ++ R ++ [13, 10] : List UInt8) = F at a4 HFI hFl
    generalize ([72, 84, 84, 80, 47, 49, 46, 49, 32] ++ D ++ [32] ++ R : List UInt8) = x3 at a3 a4
    generalize ([72, 84, 84, 80, 47, 49, 46, 49, 32] ++ D ++ [32] : List UInt8) = x2 at a2 a3
    generalize ([72, 84, 84, 80, 47, 49, 46, 49, 32] ++ D : List UInt8) = x1 at a1 a2
    go_wp2
    go_region_held3 (fun w' => w'.cell? ⟨w.heap.size, 0, none⟩ = some (.int .i64 s) ∧ Below w1.heap.size w1 w')
      (first
        | exact keep1 hb13 hs1 c0
        | exact keep1 (Below.drew (Below.refl _ _)) hs1 c0)
      (first
        | (go_at_call 29; refine (hD _).mono ?_; rintro e w11 ⟨rfl, hb11⟩; have hb13 : Below w1.heap.size w1 w11 := (Below.drew (Below.refl w1.heap.size w1)).trans hb11)
        | (go_at_call 16; refine (hRs _).mono ?_; rintro e w12 ⟨rfl, rfl⟩))
    try clear hH
    have B2 : BlkR w11 w.heap.size (.int .i64 s) (.slice A l.length cap) (.string (S b)) := (hb13.block _ hs1).trans B1
    have hl2 := hl1.next hb13
    have hs2 : w.heap.size < w11.heap.size := Nat.lt_of_lt_of_le hs1 hb13.size
    have hbw2 : Below w.heap.size w w11 := hbw1.trans (hb13.mono hbw1.size)
    clear a1 a2 a3 a4 hD hRs hDl c0 B1 hl1 hs1 hbw1 hb13 hb11 p0 p1 p2
    go_wp2
    go_loopw [5, 6] (fun t i wr => ∃ k : Nat, k ≤ l.length ∧ i = .int .i64 k ∧ t = .string (S (F ++ Rsp.hds (l.take k))) ∧ Below w11.heap.size w11 wr) (fun _ i _ => l.length - (intOf i).toNat)
    case atStart => exact ⟨0, Nat.zero_le _, rfl, by simp [Rsp.hds], Below.refl _ _⟩
    case round =>
      obtain ⟨k, hk, rfl, ht, hb⟩ := hrel
      have HTL := Lib.hid (show (F ++ Rsp.hds (l.take k)).length ≤ 2147483652 * k + 1000 by
        have h1 := hds_len (l.take k) (fun q hq => HQ.out q (List.mem_of_mem_take hq))
        have h2 : (l.take k).length ≤ k := List.length_take_le _ _
        rw [List.length_append]
        have := Nat.mul_le_mul_left 2147483652 h2
        omega)
      obtain ⟨acc, hacc⟩ : ∃ acc, acc = F ++ Rsp.hds (l.take k) := ⟨_, rfl⟩
      rw [← hacc] at ht
      subst ht
      have hal : acc.length ≤ 100000000000 := by rw [hacc]; have := HTL.out; omega
      have HACC := Lib.hid hacc
      clear hacc HTL
      have B3 : BlkR wr w.heap.size (.int .i64 s) (.slice A l.length cap) (.string (S b)) := (hb.block _ hs2).trans B2
      have c1 := B3.c1
      by_cases hlt : k < l.length
      · obtain ⟨ab, off, rfl, hbb, hc⟩ := hl2 (by omega)
        obtain ⟨d0', d1'⟩ := hc k hlt
        clear hc
        have hf1 := HQ.out l[k] (List.getElem_mem hlt)
        have HN := Lib.hid (show F ++ Rsp.hds (l.take (k + 1)) = acc ++ l[k].1 ++ [58, 32] ++ l[k].2 ++ [13, 10] by
          rw [HACC.out, List.take_succ_eq_append_getElem hlt]
          unfold Rsp.hds
          rw [List.flatMap_append]
          simp [Rsp.hd])
        obtain ⟨nm, hn⟩ : ∃ nm, nm = l[k].1 := ⟨_, rfl⟩
        obtain ⟨v, hv⟩ : ∃ v, v = l[k].2 := ⟨_, rfl⟩
        have hn60 : nm.length ≤ 1073741824 := by rw [hn]; exact hf1.1
        have hv60 : v.length ≤ 1073741824 := by rw [hv]; exact hf1.2
        rw [← hn] at d0' HN
        rw [← hv] at d1' HN
        clear hn hv hf1
        have d0 : wr.cell? ⟨ab, off + k * 2, none⟩ = some (.string (S nm)) := (hb.cell (p := ⟨ab, off + k * 2, none⟩) hbb).trans d0'
        have d1 : wr.cell? ⟨ab, off + k * 2 + 1, none⟩ = some (.string (S v)) := (hb.cell (p := ⟨ab, off + k * 2 + 1, none⟩) hbb).trans d1'
        clear d0' d1'
        have n0 : (0 : Int) ≤ (k : Int) := by omega
        have n1 : (k : Int) < (l.length : Int) := by omega
        have a1 := fun w' : World => run_add_S w' acc nm (by omega)
        have a2 := fun w' : World => (show (Op.stringOp .add (S (acc ++ nm)) ⟨#[58, 32]⟩).run Tryd.prog w' = .ok (.string (S (acc ++ nm ++ [58, 32]))) w' from run_add_S w' _ [58, 32] (by simp; omega))
        have a3 := fun w' : World => run_add_S w' (acc ++ nm ++ [58, 32]) v (by simp; omega)
        have a4 := fun w' : World => (show (Op.stringOp .add (S (acc ++ nm ++ [58, 32] ++ v)) ⟨#[13, 10]⟩).run Tryd.prog w' = .ok (.string (S (acc ++ nm ++ [58, 32] ++ v ++ [13, 10]))) w' from run_add_S w' _ [13, 10] (by simp; omega))
        generalize acc ++ nm ++ [58, 32] ++ v ++ [13, 10] = z at a4 HN
        generalize acc ++ nm ++ [58, 32] ++ v = y3 at a3 a4
        generalize acc ++ nm ++ [58, 32] = y2 at a2 a3
        generalize acc ++ nm = y1 at a1 a2
        clear hl2 B3
        go_wp2
        go_quiet (fail)
        go_wp2
        go_roundw
        case rel => exact ⟨k + 1, by omega, by go_num, by rw [HN.out], hb.trans (below_drewN (Below.refl _ _) _)⟩
        case measure => simp [intOf]; omega
      · have HW := Lib.hid (show Rsp.write s l b = acc ++ [67, 111, 110, 116, 101, 110, 116, 45, 76, 101, 110, 103, 116, 104, 58, 32] ++ Lib.decDigits b.length ++ [13, 10, 13, 10] ++ b by
          rw [HWR.out, HACC.out, HFI.out, List.take_of_length_le (by omega)])
        have n1 : ¬ (k : Int) < (l.length : Int) := by omega
        have c2 := B3.c2
        have hs3 : w.heap.size < wr.heap.size := Nat.lt_of_lt_of_le hs2 hb.size
        have hbz : (S b).size = b.length := rfl
        have hdl : (Lib.decDigits b.length).length ≤ 100 := dec_len (b.length : Int) (by omega)
        have hD := fun w' : World => refDigits_any b.length w' (by omega)
        generalize Lib.decDigits b.length = D2 at hD hdl HW
        have a1 := fun w' : World => (show (Op.stringOp .add (S acc) ⟨#[67, 111, 110, 116, 101, 110, 116, 45, 76, 101, 110, 103, 116, 104, 58, 32]⟩).run Tryd.prog w' = .ok (.string (S (acc ++ [67, 111, 110, 116, 101, 110, 116, 45, 76, 101, 110, 103, 116, 104, 58, 32]))) w' from run_add_S w' acc [67, 111, 110, 116, 101, 110, 116, 45, 76, 101, 110, 103, 116, 104, 58, 32] (by simp; omega))
        have a2 := fun w' : World => run_add_S w' (acc ++ [67, 111, 110, 116, 101, 110, 116, 45, 76, 101, 110, 103, 116, 104, 58, 32]) D2 (by simp; omega)
        have a3 := fun w' : World => (show (Op.stringOp .add (S (acc ++ [67, 111, 110, 116, 101, 110, 116, 45, 76, 101, 110, 103, 116, 104, 58, 32] ++ D2)) ⟨#[13, 10, 13, 10]⟩).run Tryd.prog w' = .ok (.string (S (acc ++ [67, 111, 110, 116, 101, 110, 116, 45, 76, 101, 110, 103, 116, 104, 58, 32] ++ D2 ++ [13, 10, 13, 10]))) w' from run_add_S w' _ [13, 10, 13, 10] (by simp; omega))
        have a4 := fun w' : World => run_add_S w' (acc ++ [67, 111, 110, 116, 101, 110, 116, 45, 76, 101, 110, 103, 116, 104, 58, 32] ++ D2 ++ [13, 10, 13, 10]) b (by simp; omega)
        generalize acc ++ [67, 111, 110, 116, 101, 110, 116, 45, 76, 101, 110, 103, 116, 104, 58, 32] ++ D2 ++ [13, 10, 13, 10] ++ b = z at a4 HW
        generalize acc ++ [67, 111, 110, 116, 101, 110, 116, 45, 76, 101, 110, 103, 116, 104, 58, 32] ++ D2 ++ [13, 10, 13, 10] = y3 at a3 a4
        generalize acc ++ [67, 111, 110, 116, 101, 110, 116, 45, 76, 101, 110, 103, 116, 104, 58, 32] ++ D2 = y2 at a2 a3
        generalize acc ++ [67, 111, 110, 116, 101, 110, 116, 45, 76, 101, 110, 103, 116, 104, 58, 32] = y1 at a1 a2
        clear hl2 B2 B3
        go_wp2
        go_region_held3 (fun w' => w'.cell? ⟨w.heap.size, 2, none⟩ = some (.string (S b)) ∧ Below wr.heap.size wr w')
          (first
            | exact keep2 hb23 hs3 c2
            | exact keep2 (Below.drew (Below.refl _ _)) hs3 c2)
          (first
            | (go_at_call 29; refine (hD _).mono ?_; rintro e w21 ⟨rfl, hb21⟩; have hb23 : Below wr.heap.size wr w21 := (Below.drew (Below.refl wr.heap.size wr)).trans hb21))
        try clear hH
        go_wp2
        go_ret2
        exact ⟨by rw [HR.out, HW.out]; rfl, hbw2.trans ((hb.trans (hb23.mono hb.size)).mono hbw2.size)⟩
end Go.Proofs.YtehgigfngelkjaaDoor
