/- What package response's Write answers, from the headers' row on. -/
import Derived.Test.YtehgigfngelkjaaDoorEi
namespace Go.Proofs.YtehgigfngelkjaaDoor
set_option maxRecDepth 8000
open Go.RowKit

theorem keepS {w1 w' : World} {B : Nat} {v u : Value} (h : Below w1.heap.size w1 w') (hB : B < w1.heap.size) (d1 : w1.cell? ⟨B, 1, none⟩ = some v) (d2 : w1.cell? ⟨B, 2, none⟩ = some u) :
    w'.cell? ⟨B, 1, none⟩ = some v ∧ w'.cell? ⟨B, 2, none⟩ = some u ∧ Below w1.heap.size w1 w' :=
  ⟨(h.cell (p := ⟨B, 1, none⟩) hB).trans d1, (h.cell (p := ⟨B, 2, none⟩) hB).trans d2, h⟩
theorem keep1 {w1 w' : World} {B : Nat} {v : Value} (h : Below w1.heap.size w1 w') (hB : B < w1.heap.size) (d1 : w1.cell? ⟨B, 0, none⟩ = some v) : w'.cell? ⟨B, 0, none⟩ = some v ∧ Below w1.heap.size w1 w' :=
  ⟨(h.cell (p := ⟨B, 0, none⟩) hB).trans d1, h⟩
theorem grown_none {b : Nat} {w wa w' : World} (h : Below b w wa) (hg : wa.grownBy w' none) (hb : b ≤ wa.heap.size) : Below b w w' := h.grown hg hb (fun k hk => by cases hk)

set_option maxHeartbeats 1600000 in
theorem write_any (s : Int) (A : Option Addr) (cap : Nat) (l : List Pct.PairL) (b : List UInt8) (w : World) (he : EnvC w) (hs : (Lit.int .i64 s).wf = true) (hl : PCells w w.heap.size A l) (hcap : l.length ≤ cap) (hnil : A = none → cap = 0)
    (hq : ∀ k (h : k < l.length), l[k].1.length ≤ 1073741824 ∧ l[k].2.length ≤ 1073741824) :
    Calls Tryd.prog 11 #[rspV s (.slice A l.length cap) b] w fun e w' => e = .returned (writeRes s l b) ∧ Below w.heap.size w w' := by
  have hR := fun w' h => right_any s A cap l b w' hs h hq
  unfold rspV
  go_enter Tryd.func11, Tryd.ntmps11
  go_wp2_with fail
  refine (hR _ (hl.next ((Below.refl _ _).alloc (Nat.le_refl _) _))).mono ?_
  rintro e w1 ⟨rfl, hb1⟩
  have hb2 : Below w.heap.size w w1 := ((Below.refl w.heap.size w).alloc (Nat.le_refl _) _).trans (hb1.mono (by simp))
  have B := (BlkP.new w s (.slice A l.length cap) b).below hb1 (by simp)
  have d0 := B.c0
  have d1 := B.c1
  have d2 := B.c2
  have HZ1 := Lib.hid (show w.heap.size < w1.heap.size from Nat.lt_of_lt_of_le (by simp) hb1.size)
  clear hb1 B hR
  cases hr : Rsp.right s l b with
  | false =>
    have HR := Lib.hid (show writeRes s l b = .tuple #[.string ⟨#[]⟩, .int .i64 1] by unfold writeRes; rw [hr, if_neg (by decide)])
    clear hr
    go_wp2
    go_ret2
    exact ⟨by rw [HR.out]; rfl, hb2⟩
  | true =>
    obtain ⟨p0, p1, p2, p3, p4⟩ := right_parts hr
    have HR := Lib.hid (show writeRes s l b = .tuple #[.string (S (Rsp.write s l b)), .int .i64 0] by unfold writeRes; rw [hr, if_pos rfl])
    have HNN := Lib.hid (show A = none → l.length = 0 ∧ l.length = 0 from fun h => by have := hnil h; omega)
    have HOL := Lib.hid (fun w2 h => olds_of (w2 := w2) hl h)
    have HCL := Lib.hid (cells2_len l)
    have hdl : (Lib.decDigits b.length).length ≤ 100 := dec_len (b.length : Int) (by omega)
    have he1 := he.next hb2
    have hI := fun (w' : World) (h : EnvC w') => itoa_any (b.length : Int) w' h (by omega) (by omega)
    obtain ⟨i0, hi0, hz0, hz1, hz2⟩ := info_parts Tryd.infoPair
    have h63 : l.length + 1 ≤ maxLen := by unfold maxLen; omega
    have hcap' : (l.length : Int) ≤ (cap : Int) := by omega
    have hn0 : (0 : Int) ≤ (l.length : Int) := by omega
    have hbz : (S b).size = b.length := rfl
    have B1s : w.heap.size < w1.heap.size := HZ1.out
    have HQ := Lib.hid hq
    clear hr hcap hnil hl he hq
    go_wp2
    have hsl : ∀ x : Nat, (if l.length = 0 then A else Option.map (fun y : Addr => y.add (0 * x)) A) = A := by
      intro x
      split
      · rfl
      · cases A with
        | none => rfl
        | some a => cases a; simp [Addr.add]
    go_region_held3 (fun w' => w'.cell? ⟨w.heap.size, 1, none⟩ = some (.slice A l.length cap) ∧ w'.cell? ⟨w.heap.size, 2, none⟩ = some (.string (S b)) ∧ Below w1.heap.size w1 w')
      (first
        | exact keepS hb8 B1s d1 d2
        | exact keepS (hb6.alloc hb6.size _) B1s d1 d2
        | exact keepS hb6 B1s d1 d2
        | exact keepS (Below.drew (Below.refl _ _)) B1s d1 d2)
      (first
        | (go_at_call 31; refine (hI _ (he1.next (Below.drew (Below.refl _ _)))).mono ?_; rintro e w5 ⟨rfl, hb5⟩; have hb6 : Below w1.heap.size w1 w5 := (Below.drew (Below.refl w1.heap.size w1)).trans hb5)
        | (refine step_append_grows (by rfl) _ _ _ (by rfl) 44 i0 _ 2 32 Tryd.underlying22 hi0 hz0 hz1 hz2 rfl (by omega) A l.length l.length (cells2 l) (by first | rfl | simp [Act.eval]) HNN.out HCL.out (HOL.out _ ((hb2.trans (hb6.mono hb2.size)).alloc (Nat.le_trans hb2.size hb6.size) _)) ⟨w5.heap.size, 0, none⟩ 1 1 [.string (S Rsp.lenName), .string (S (Lib.decDigits b.length))] (by rfl) (by rfl) (World.news_of_block (cs := #[.string (S Rsp.lenName), .string (S (Lib.decDigits b.length))]) (t := 44) (fr := (0, 0)) (heap_alloc_new w5 _)) (by simp [Value.oneCell']) (by omega) h63 (by omega) ?_; intro v' w7 hown7 hgrow7; have hb8 : Below w1.heap.size w1 w7 := grown_none (hb6.alloc hb6.size _) hgrow7 (by have := hb6.size; simp; omega); obtain ⟨gg, cp, rfl, hPC⟩ := all_row (q := (Rsp.lenName, Lib.decDigits b.length)) hown7))
    have hbw7 : Below w.heap.size w w7 := hb2.trans (hb8.mono hb2.size)
    have he7 : EnvC w7 := he1.next hb8
    have B7s : w.heap.size < w7.heap.size := Nat.lt_of_lt_of_le B1s hb8.size
    have e0 : w7.cell? ⟨w.heap.size, 0, none⟩ = some (.int .i64 s) := (hb8.cell (p := ⟨w.heap.size, 0, none⟩) B1s).trans d0
    have e2 : w7.cell? ⟨w.heap.size, 2, none⟩ = some (.string (S b)) := (hb8.cell (p := ⟨w.heap.size, 2, none⟩) B1s).trans d2
    clear hown7 hgrow7 hb8 hb6 hb5 HNN HOL HCL hI hi0 hz0 hz1 hz2 h63 hcap' hn0 hbz B1s HZ1 hsl d0 d1 d2 hb2 he1
    try clear hH
    have HLL := Lib.hid (show (l ++ [(Rsp.lenName, Lib.decDigits b.length)]).length ≤ 33 ∧ (l ++ [(Rsp.lenName, Lib.decDigits b.length)]).length = l.length + 1 by simp; omega)
    have HLQ := Lib.hid (show ∀ q ∈ l ++ [(Rsp.lenName, Lib.decDigits b.length)], q.1.length ≤ 1073741824 ∧ q.2.length ≤ 1073741824 by
      intro q hq
      rw [List.mem_append, List.mem_singleton] at hq
      rcases hq with h | rfl
      · obtain ⟨k, hk, rfl⟩ := List.getElem_of_mem h
        exact HQ.out k hk
      · exact ⟨by show Rsp.lenName.length ≤ _; decide, by show (Lib.decDigits b.length).length ≤ _; omega⟩)
    have HWR := Lib.hid (show Rsp.write s l b = Rsp.first s ++ Rsp.hds (l ++ [(Rsp.lenName, Lib.decDigits b.length)]) ++ ([13, 10] ++ b) from rfl)
    generalize hL : l ++ [(Rsp.lenName, Lib.decDigits b.length)] = L at hPC HLL HLQ HWR ⊢
    clear hL HQ hdl
    generalize hA2 : (some (⟨gg, 0, none⟩ : Addr)) = A2 at hPC ⊢
    clear hA2
    have hI2 := fun (w' : World) (h : EnvC w') => itoa_any s w' h p0 (by omega)
    have hRs := fun (w' : World) => reason_to s w' hs
    have hDl : (Lib.decDigits s.toNat).length ≤ 100 := dec_len s (by omega)
    have HFI := Lib.hid (show Rsp.first s = [72, 84, 84, 80, 47, 49, 46, 49, 32] ++ Lib.decDigits s.toNat ++ [32] ++ Rsp.reason s ++ [13, 10] from rfl)
    generalize Lib.decDigits s.toNat = D at hI2 hDl HFI
    generalize Rsp.reason s = R at hRs p2 HFI
    have a1 := fun w' : World => (show (Op.stringOp .add ⟨#[72, 84, 84, 80, 47, 49, 46, 49, 32]⟩ (S D)).run Tryd.prog w' = .ok (.string (S ([72, 84, 84, 80, 47, 49, 46, 49, 32] ++ D))) w' from run_add_S w' [72, 84, 84, 80, 47, 49, 46, 49, 32] D (by simp; omega))
    have a2 := fun w' : World => (show (Op.stringOp .add (S ([72, 84, 84, 80, 47, 49, 46, 49, 32] ++ D)) ⟨#[32]⟩).run Tryd.prog w' = .ok (.string (S ([72, 84, 84, 80, 47, 49, 46, 49, 32] ++ D ++ [32]))) w' from run_add_S w' _ [32] (by simp; omega))
    have a3 := fun w' : World => run_add_S w' ([72, 84, 84, 80, 47, 49, 46, 49, 32] ++ D ++ [32]) R (by simp; omega)
    have a4 := fun w' : World => (show (Op.stringOp .add (S ([72, 84, 84, 80, 47, 49, 46, 49, 32] ++ D ++ [32] ++ R)) ⟨#[13, 10]⟩).run Tryd.prog w' = .ok (.string (S ([72, 84, 84, 80, 47, 49, 46, 49, 32] ++ D ++ [32] ++ R ++ [13, 10]))) w' from run_add_S w' _ [13, 10] (by simp; omega))
    have hFl : ([72, 84, 84, 80, 47, 49, 46, 49, 32] ++ D ++ [32] ++ R ++ [13, 10] : List UInt8).length ≤ 1000 := by simp; omega
    generalize hF : ([72, 84, 84, 80, 47, 49, 46, 49, 32] ++ D ++ [32] ++ R ++ [13, 10] : List UInt8) = F at a4 HFI hFl
    have HFN := Lib.hid (show F ≠ [] by rw [← hF]; simp)
    clear hF
    generalize ([72, 84, 84, 80, 47, 49, 46, 49, 32] ++ D ++ [32] ++ R : List UInt8) = x3 at a3 a4
    generalize ([72, 84, 84, 80, 47, 49, 46, 49, 32] ++ D ++ [32] : List UInt8) = x2 at a2 a3
    generalize ([72, 84, 84, 80, 47, 49, 46, 49, 32] ++ D : List UInt8) = x1 at a1 a2
    go_wp2
    have hB8 : Bld w7.heap.size w7.heap.size [] (w7.alloc (.cells #[.pointer none, .slice none 0 0] 57)) := Lib.fresh_isBuilder _ _ w7
    have hb9 : Below w7.heap.size w7 (w7.alloc (.cells #[.pointer none, .slice none 0 0] 57)) := (Below.refl _ _).alloc (Nat.le_refl _) _
    generalize w7.alloc (.cells #[.pointer none, .slice none 0 0] 57) = w8 at hB8 hb9 ⊢
    go_region_held3 (fun w' => w'.cell? ⟨w.heap.size, 0, none⟩ = some (.int .i64 s) ∧ Below w7.heap.size w7 w')
      (first
        | exact keep1 hb17 B7s e0
        | exact keep1 hb15 B7s e0
        | exact keep1 hb13 B7s e0
        | exact keep1 (Below.drew hb9) B7s e0)
      (first
        | (go_at_call 31; refine (hI2 _ (he7.next (Below.drew hb9))).mono ?_; rintro e w11 ⟨rfl, hb11⟩; have hbx : Below w8.heap.size w8 w11 := (Below.drew (Below.refl w8.heap.size w8)).trans hb11; have hb13 : Below w7.heap.size w7 w11 := hb9.trans (hbx.mono hb9.size); have hB13 := hB8.below hbx)
        | (go_at_call 15; refine (hRs _).mono ?_; rintro e w12 ⟨rfl, hb12⟩; have hb15 : Below w7.heap.size w7 w12 := hb13.trans (hb12.mono hb13.size); have hB15 := hB13.below hb12)
        | (go_at_call 32; refine (writeString_any w7.heap.size w7.heap.size [] F _ hB15 (by simp; omega) hb15.size).mono ?_; rintro e w14 ⟨rfl, hB14, hb14, _⟩; have hb17 : Below w7.heap.size w7 w14 := hb15.trans hb14))
    rw [List.nil_append] at hB14
    clear hb14 hB15 hb15 hB13 hb13 hb12 hb11 hbx hB8 hb9 a1 a2 a3 a4 hI2 hRs hDl he7 e0 p0 p1 p2
    try clear hH
    have HW14 := Lib.hid hB14
    have HB17 := Lib.hid hb17
    clear hB14 hb17
    go_wp2
    go_loopw [40] (fun i wr => ∃ k : Nat, k ≤ L.length ∧ i = .int .i64 k ∧ Bld w7.heap.size w7.heap.size (F ++ Rsp.hds (L.take k)) wr ∧ Below w7.heap.size w7 wr) (fun i _ => L.length - (intOf i).toNat)
    case atStart => exact ⟨0, Nat.zero_le _, rfl, by simpa [Rsp.hds] using HW14.out, HB17.out⟩
    case round =>
      obtain ⟨k, hk, rfl, hbld, hb⟩ := hrel
      clear HW14 HB17
      have HTL := Lib.hid (show (F ++ Rsp.hds (L.take k)).length ≤ 2147483652 * k + 1000 by
        have h1 := hds_len (L.take k) (fun q hq => HLQ.out q (List.mem_of_mem_take hq))
        have h2 : (L.take k).length ≤ k := List.length_take_le _ _
        rw [List.length_append]
        have := Nat.mul_le_mul_left 2147483652 h2
        omega)
      have hk33 : k ≤ 33 := Nat.le_trans hk HLL.out.1
      obtain ⟨acc, hacc⟩ : ∃ acc, acc = F ++ Rsp.hds (L.take k) := ⟨_, rfl⟩
      rw [← hacc] at hbld
      have hal : acc.length ≤ 100000000000 := by rw [hacc]; have := HTL.out; omega
      have HACC := Lib.hid hacc
      clear hacc HTL
      by_cases hlt' : k < l.length + 1
      · have hlt : k < L.length := by have := HLL.out.2; omega
        obtain ⟨ab, off, rfl, hbb, hc⟩ := hPC (by omega)
        obtain ⟨c0', c1'⟩ := hc k hlt
        clear hc
        obtain ⟨n, hn⟩ : ∃ n, n = L[k].1 := ⟨_, rfl⟩
        obtain ⟨v, hv⟩ : ∃ v, v = L[k].2 := ⟨_, rfl⟩
        have hf1 := HLQ.out L[k] (List.getElem_mem hlt)
        have hn60 : n.length ≤ 1073741824 := by rw [hn]; exact hf1.1
        have hv60 : v.length ≤ 1073741824 := by rw [hv]; exact hf1.2
        rw [← hn] at c0'
        rw [← hv] at c1'
        have c0 : wr.cell? ⟨ab, off + k * 2, none⟩ = some (.string (S n)) := (hb.cell (p := ⟨ab, off + k * 2, none⟩) hbb).trans c0'
        have c1 : wr.cell? ⟨ab, off + k * 2 + 1, none⟩ = some (.string (S v)) := (hb.cell (p := ⟨ab, off + k * 2 + 1, none⟩) hbb).trans c1'
        have n0 : (0 : Int) ≤ (k : Int) := by omega
        have n1 : (k : Int) < (l.length : Int) + 1 := by omega
        have HLT := Lib.hid hlt
        have HKL := Lib.hid (show k + 1 ≤ L.length by omega)
        have st0 := st_new n v hbld hb
        have a1 := fun w' : World => (show (Op.stringOp .add (S n) ⟨#[58, 32]⟩).run Tryd.prog w' = .ok (.string (S (n ++ [58, 32]))) w' from run_add_S w' n [58, 32] (by simp; omega))
        have a2 := fun w' : World => run_add_S w' (n ++ [58, 32]) v (by simp; omega)
        have a3 := fun w' : World => (show (Op.stringOp .add (S (n ++ [58, 32] ++ v)) ⟨#[13, 10]⟩).run Tryd.prog w' = .ok (.string (S (n ++ [58, 32] ++ v ++ [13, 10]))) w' from run_add_S w' _ [13, 10] (by simp; omega))
        have hzl : (n ++ [58, 32] ++ v ++ [13, 10]).length ≤ 3000000000 := by simp; omega
        have HN := Lib.hid (show F ++ Rsp.hds (L.take (k + 1)) = acc ++ (n ++ [58, 32] ++ v ++ [13, 10]) by
          rw [HACC.out, List.take_succ_eq_append_getElem hlt, hn, hv, List.append_assoc F]
          unfold Rsp.hds
          rw [List.flatMap_append]
          simp [Rsp.hd])
        generalize (n ++ [58, 32] ++ v ++ [13, 10]) = z at a3 hzl HN
        generalize (n ++ [58, 32] ++ v) = y2 at a2 a3
        generalize (n ++ [58, 32]) = y1 at a1 a2
        have d0 := st0.cell0
        have d1 := st0.cell1
        clear hn hv hf1 c0' c1' hbld hPC hlt hk
        go_wp2_with fail
        refine (st_text st0 z (by omega) (by omega)).mono ?_
        rintro e w3 ⟨rfl, st3⟩
        go_wp2
        go_roundw
        case rel => exact ⟨k + 1, HKL.out, by go_num, by rw [HN.out]; exact st3.1, st3.2.2⟩
        case measure => have := HLT.out; simp [intOf]; omega
      · have hlt : ¬ k < L.length := by have := HLL.out.2; omega
        have HW := Lib.hid (show Rsp.write s l b = acc ++ ([13, 10] ++ b) by rw [HWR.out, HACC.out, HFI.out, List.take_of_length_le (by omega)])
        have HNE := Lib.hid (show acc ++ ([13, 10] ++ b) ≠ [] by simp)
        have f2 : wr.cell? ⟨w.heap.size, 2, none⟩ = some (.string (S b)) := (hb.cell (p := ⟨w.heap.size, 2, none⟩) B7s).trans e2
        have a1 := fun w' : World => (show (Op.stringOp .add ⟨#[13, 10]⟩ (S b)).run Tryd.prog w' = .ok (.string (S ([13, 10] ++ b))) w' from run_add_S w' [13, 10] b (by simp; omega))
        have hzl : ([13, 10] ++ b).length ≤ 10000 := by simp; omega
        generalize [13, 10] ++ b = z at a1 HW HNE hzl
        clear hPC hlt hk
        go_wp2_with fail
        refine (writeString_any w7.heap.size w7.heap.size acc z wr hbld (by omega) hb.size).mono ?_
        rintro e w15 ⟨rfl, hB15, hb15, _⟩
        go_wp2_with fail
        refine (string_some w7.heap.size w7.heap.size _ w15 hB15 HNE.out).mono ?_
        rintro e w16 ⟨rfl, hb16⟩
        go_wp2
        go_ret2
        exact ⟨by rw [HR.out, HW.out]; rfl, hbw7.trans (((hb.trans hb15).trans hb16).mono (Nat.le_of_lt B7s))⟩
end Go.Proofs.YtehgigfngelkjaaDoor
