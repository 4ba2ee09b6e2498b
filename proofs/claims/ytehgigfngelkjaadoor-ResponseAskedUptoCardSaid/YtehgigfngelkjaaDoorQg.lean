/- What the document's own Header of requests answers, for any texts of at most 2^30 bytes and at most 1000 headers; and that a response's headers and body, below a request's first line, are that request's (plain). -/
import Derived.Test.YtehgigfngelkjaaDoorQf
import Derived.Test.YtehgigfngelkjaaDoorEq
import Derived.Test.YtehgigfngelkjaaDoorRspBack
import Derived.Test.YtehgigfngelkjaaDoorReqBack
import Derived.Test.YtehgigfngelkjaaDoorEp
namespace Go.Proofs.YtehgigfngelkjaaDoor
set_option maxRecDepth 8000
open Go.RowKit
namespace Rq

theorem below_alloc (w : World) (o : Obj) : Below w.heap.size w (w.alloc o) := (Below.refl _ _).alloc (Nat.le_refl _) o
set_option maxHeartbeats 400000 in
theorem refHeader_any (m t : List UInt8) (A : Option Addr) (cap : Nat) (l : List Pct.PairL) (b nm : List UInt8) (w : World) (hl : PCells w w.heap.size A l) (hm : l.length ≤ 1000) (hq : ∀ k (h : k < l.length), l[k].1.length ≤ 1073741824) :
    Calls Tryd.prog 27 #[.agg #[.string (S m), .string (S t), .slice A l.length cap, .string (S b)], .string (S nm)] w (Told w (.returned (.tuple #[.string (S (Req.hdrV nm l)), .int .i64 (Req.hdrN nm l : Int)]))) := by
  have hb0 := below_alloc w (.cells #[.string (S m), .string (S t), .slice A l.length cap, .string (S b)] 50)
  have B0 := BlkR.new w m t b (.slice A l.length cap)
  have p0 := hl.next hb0
  generalize hW : w.alloc (.cells #[.string (S m), .string (S t), .slice A l.length cap, .string (S b)] 50) = w0 at hb0 B0 p0
  have d2 := B0.c2
  go_enter Tryd.func27, Tryd.ntmps27
  go_wp2
  go_loop [6, 7, 8] (fun val cnt i => ∃ (k c : Nat) (x : List UInt8) (z : Int), k ≤ l.length ∧ z = (k : Int) - 1 ∧ i = .int .i64 z ∧ val = .string (S x) ∧ cnt = .int .i64 c ∧ x = Req.hdrV nm (l.drop k) ∧ c = Req.hdrN nm (l.drop k)) (fun _ _ i => (intOf i + 1).toNat)
  case atStart => exact ⟨l.length, 0, [], _, Nat.le_refl _, rfl, rfl, rfl, rfl, by simp [Req.hdrV], by simp [Req.hdrN]⟩
  case round =>
    obtain ⟨k, c, x, z, hk, hz, rfl, rfl, rfl, hx, hc⟩ := hrel
    have hck : c ≤ 1000 := by
      rw [hc]
      have := hdrN_le nm (l.drop k)
      have h2 : (l.drop k).length ≤ l.length := by rw [List.length_drop]; omega
      omega
    have HX := Lib.hid hx
    have HC := Lib.hid hc
    clear hx hc
    cases k with
    | zero =>
      obtain rfl : z = -1 := by omega
      have e1 := HX.out
      have e2 := HC.out
      rw [List.drop_zero] at e1 e2
      have E1 := Lib.hid e1
      have E2 := Lib.hid e2
      clear e1 e2 hz
      go_wp2
      go_ret2
      exact ⟨by rw [E1.out, E2.out]; rfl, hb0⟩
    | succ j =>
      obtain rfl : z = (j : Int) := by omega
      clear hz
      have hlt : j < l.length := by omega
      obtain ⟨ab, off, hA, hbb, hcl⟩ := p0 (by omega)
      obtain ⟨c0, c1⟩ := hcl j hlt
      have hql := hq j hlt
      clear hcl hq
      have HD := Lib.hid (List.drop_eq_getElem_cons hlt)
      obtain ⟨n, hn⟩ : ∃ n, n = l[j].1 := ⟨_, rfl⟩
      obtain ⟨v, hv⟩ : ∃ v, v = l[j].2 := ⟨_, rfl⟩
      rw [← hn] at c0 hql
      rw [← hv] at c1
      have HQ := Lib.hid (show l[j] = (n, v) by rw [hn, hv])
      clear hn hv
      have i0 : (0 : Int) ≤ (j : Int) := by omega
      have i1 : (j : Int) < (l.length : Int) := by omega
      subst hA
      cases hnm : Req.alike n nm with
      | true =>
        have hAl := fun w' => refAlike_to n nm true w' hql hnm
        have HV := Lib.hid (show Req.hdrV nm (l.drop j) = v by rw [HD.out, HQ.out, Req.hdrV, if_pos hnm])
        have HN := Lib.hid (show Req.hdrN nm (l.drop j) = c + 1 by rw [HD.out, HQ.out, hdrN_cons, if_pos hnm, HC.out])
        clear hnm
        go_wp2_with (go_at_call 39; refine (hAl _).mono ?_; rintro e w' ⟨rfl, rfl⟩)
        go_round
        case rel => exact ⟨j, c + 1, v, _, by omega, rfl, rfl, rfl, by go_num, HV.out.symm, HN.out.symm⟩
        case measure => simp [intOf]
      | false =>
        have hAl := fun w' => refAlike_to n nm false w' hql hnm
        have hnt : ¬ Req.alike n nm = true := by rw [hnm]; simp
        have HV := Lib.hid (show Req.hdrV nm (l.drop j) = x by rw [HD.out, HQ.out, Req.hdrV, if_neg hnt, HX.out])
        have HN := Lib.hid (show Req.hdrN nm (l.drop j) = c by rw [HD.out, HQ.out, hdrN_cons, if_neg hnt, HC.out, Nat.add_zero])
        clear hnm hnt
        go_wp2_with (go_at_call 39; refine (hAl _).mono ?_; rintro e w' ⟨rfl, rfl⟩)
        go_round
        case rel => exact ⟨j, c, x, _, by omega, rfl, rfl, rfl, rfl, HV.out.symm, HN.out.symm⟩
        case measure => simp [intOf]
end Rq
namespace Rsp
open Pct (PairL)
def askR (l : List PairL) (b : Bytes) : Req.R := ⟨Req.post, [47], all l b, b⟩
theorem dec_number : ∀ n, n < 301 → Req.number (Lib.decDigits n) = some n := by decide +kernel
theorem dec_text (n : Nat) : Req.isText (Lib.decDigits n) = true := by
  unfold Req.isText
  rw [Bool.and_eq_true]
  refine ⟨List.all_eq_true.2 fun x hx => ?_, ?_⟩
  · have := Ck.dec_range n x hx
    exact decide_eq_true ⟨by omega, by omega⟩
  · rw [trim_ends]
    unfold endsOk
    rw [Bool.and_eq_true, Bool.not_eq_true', Bool.not_eq_true', beq_eq_false_iff_ne, beq_eq_false_iff_ne]
    refine ⟨fun e => ?_, fun e => ?_⟩
    · have := Ck.dec_range n 32 (List.mem_of_mem_head? e)
      exact absurd this (by decide)
    · have := Ck.dec_range n 32 (List.mem_reverse.1 (List.mem_of_mem_head? e))
      exact absurd this (by decide)
theorem hdrN_app (nm : Bytes) (a c : List PairL) : Req.hdrN nm (a ++ c) = Req.hdrN nm a + Req.hdrN nm c := by
  unfold Req.hdrN
  rw [List.filter_append, List.length_append]
theorem hdrN_zero {nm : Bytes} {l : List PairL} (h : ∀ q ∈ l, Req.alike q.1 nm = false) : Req.hdrN nm l = 0 := by
  unfold Req.hdrN
  rw [List.length_eq_zero_iff, List.filter_eq_nil_iff]
  intro q hq
  rw [h q hq]
  simp
theorem hdrV_skip {nm : Bytes} : ∀ {l m : List PairL}, (∀ q ∈ l, Req.alike q.1 nm = false) → Req.hdrV nm (l ++ m) = Req.hdrV nm m
  | [], _, _ => rfl
  | q :: l, m, h => by
    rw [List.cons_append, Req.hdrV, h q (List.mem_cons_self ..)]
    exact hdrV_skip (fun x hx => h x (List.mem_cons_of_mem _ hx))
theorem sumH_small : ∀ l : List PairL, (∀ q ∈ l, q.1.length ≤ 60 ∧ q.2.length ≤ 60) → Req.sumH l ≤ 123 * l.length
  | [], _ => by simp [Req.sumH]
  | q :: l, h => by
    have ih := sumH_small l (fun x hx => h x (List.mem_cons_of_mem _ hx))
    have h1 := h q (List.mem_cons_self ..)
    rw [Req.sumH, List.length_cons]
    omega
theorem ask_parse {s : Int} {l : List PairL} {b : Bytes} (h : right s l b = true) (hl : l.length ≤ 20) (hq : ∀ q ∈ l, q.1.length ≤ 60 ∧ q.2.length ≤ 60) (hb : b.length ≤ 300) (ht : Req.hdrN Req.te l = 0) :
    Req.parse ([80, 79, 83, 84, 32, 47, 32, 72, 84, 84, 80, 47, 49, 46, 49, 13, 10] ++ (hds (all l b) ++ ([13, 10] ++ b))) = .ok (askR l b) := by
  have e : [80, 79, 83, 84, 32, 47, 32, 72, 84, 84, 80, 47, 49, 46, 49, 13, 10] ++ (hds (all l b) ++ ([13, 10] ++ b)) = Req.text [32] (askR l b) := by
    have e1 : Req.top Req.post [47] = [80, 79, 83, 84, 32, 47, 32, 72, 84, 84, 80, 47, 49, 46, 49, 13, 10] := by decide +kernel
    have e2 : hds (all l b) = Req.headText [32] (all l b) := by
      unfold hds Req.headText
      congr 1
      funext q
      simp [hd, Req.hline]
    unfold Req.text askR
    rw [e1, e2, List.append_assoc]
  obtain ⟨_, hok⟩ := right_all h
  have hdl := dec_len (b.length : Int) (by omega)
  have hd3 : (Lib.decDigits b.length).length ≤ 100 := hdl
  have hcl : ∀ q ∈ l, Req.alike q.1 Req.cl = false := by
    intro q hq
    have := hok q hq
    unfold hdrOk at this
    rw [alike_cl] at this
    simp only [Bool.and_eq_true, Bool.not_eq_true'] at this
    exact this.2
  have hN1 : Req.hdrN Req.te (all l b) = 0 := by
    unfold all
    rw [hdrN_app, ht, Nat.zero_add]
    exact hdrN_zero (fun q hq => by rw [List.mem_singleton] at hq; subst hq; show Req.alike lenName Req.te = false; decide +kernel)
  have hN2 : Req.hdrN Req.cl (all l b) = 1 := by
    unfold all
    rw [hdrN_app, hdrN_zero hcl, Nat.zero_add]
    unfold Req.hdrN
    rw [List.filter_cons_of_pos (by show Req.alike lenName Req.cl = true; decide +kernel)]
    rfl
  have hV : Req.hdrV Req.cl (all l b) = Lib.decDigits b.length := by
    unfold all
    rw [hdrV_skip hcl, Req.hdrV, if_pos (by show Req.alike lenName Req.cl = true; decide +kernel)]
  have hbl : Req.bodyLen (all l b) = some b.length := by
    unfold Req.bodyLen
    rw [hN1, hN2, hV, if_neg (by decide), if_neg (by decide), if_pos rfl, dec_number _ (by omega)]
  have hlen : (all l b).length = l.length + 1 := by simp [all]
  have hsum : Req.sumH (all l b) ≤ 123 * l.length + 120 := by
    unfold all
    rw [Req.sumH_snoc]
    have := sumH_small l hq
    have e3 : lenName.length = 14 := rfl
    simp only [e3]
    omega
  have hfew : Req.fewest (askR l b) ≤ 4000 := by
    unfold Req.fewest askR
    have e4 : Req.post.length = 4 := rfl
    simp only [e4, List.length_cons, List.length_nil]
    omega
  rw [e]
  refine Req.parse_text ?_ ?_
  · unfold Req.right
    simp only [Bool.and_eq_true, decide_eq_true_eq, beq_iff_eq]
    refine ⟨⟨⟨⟨⟨?_, ?_⟩, ?_⟩, ?_⟩, ?_⟩, hbl⟩
    · show (all l b).length ≤ 32
      omega
    · omega
    · show Req.known Req.post = true
      decide +kernel
    · show Req.isTarget [47] = true
      decide +kernel
    · show (all l b).all Req.headOk = true
      rw [List.all_eq_true]
      intro q hq
      unfold all at hq
      rcases List.mem_append.1 hq with hq | hq
      · have := hok q hq
        unfold hdrOk at this
        simp only [Bool.and_eq_true] at this
        unfold Req.headOk
        rw [Bool.and_eq_true]
        exact ⟨this.1.1, this.1.2⟩
      · rw [List.mem_singleton] at hq
        subst hq
        unfold Req.headOk
        rw [dec_text, Bool.and_true]
        show Req.token lenName = true
        decide +kernel
  · have : (askR l b).heads.length = l.length + 1 := hlen
    omega
end Rsp
end Go.Proofs.YtehgigfngelkjaaDoor
