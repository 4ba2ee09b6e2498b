/- What package request's number, Header, bodyLength and readFirst answer, for any texts of at most 2^30 bytes and at most 1000 headers. -/
import Derived.Test.YtehgigfngelkjaaDoorQb
import Derived.Lib.IndexBytes
namespace Go.Proofs.YtehgigfngelkjaaDoor
set_option maxRecDepth 8000
open Go.RowKit
namespace Rq

/-! ### A length's digits -/
def numRes (o : Option Nat) : Ending :=
  match o with
  | some n => .returned (.tuple #[.int .i64 (n : Int), .bool true])
  | none => .returned (.tuple #[.int .i64 0, .bool false])
theorem reqVal_take (s : ByteArray) (k : Nat) (h : k < s.size) : Req.val (s.data.toList.take (k + 1)) = 10 * Req.val (s.data.toList.take k) + (s[k].toNat - 48) := by
  rw [take_snoc s k h]
  simp [Req.val]
theorem reqVal_lt (s : ByteArray) (hd : ∀ j (hj : j < s.size), Req.inB 48 57 s[j] = true) : ∀ k, k ≤ s.size → Req.val (s.data.toList.take k) < 10 ^ k
  | 0, _ => by simp [Req.val]
  | k + 1, hk => by
    have ih := reqVal_lt s hd k (by omega)
    have := of_decide_eq_true (hd k (by omega))
    rw [reqVal_take s k (by omega), Nat.pow_succ]
    omega
theorem within_get {lo hi : Nat} {s : ByteArray} (h : Req.within lo hi s.data.toList = true) (j : Nat) (hj : j < s.size) : Req.inB lo hi s[j] = true :=
  List.all_eq_true.1 h _ (List.mem_of_getElem? (Lib.data_getElem? s j hj))

set_option maxHeartbeats 400000 in
theorem number_s (s : ByteArray) (w : World) (hs : s.size ≤ 1073741824) :
    Calls Tryd.prog 58 #[.string s] w fun e w' => e = numRes (Req.number s.data.toList) ∧ w = w' := by
  have hz := Lib.size_eq s
  have hW := fun w' => within_any s.data.toList 48 57 48 57 w' (by omega) rfl rfl
  rw [S_eq] at hW
  have HD := Lib.hid (show Req.number s.data.toList = if !s.data.toList.isEmpty && decide (s.data.toList.length ≤ 4) && Req.within 48 57 s.data.toList then some (Req.val s.data.toList) else none from rfl)
  by_cases h0 : s.size = 0
  · have he : s.toList.isEmpty = true := by
      rw [Lib.toList_data]
      rw [h0] at hz
      rw [List.length_eq_zero_iff.1 hz.symm]
      rfl
    have H := Lib.hid (show Req.number s.data.toList = none by
      rw [h0] at hz
      rw [List.length_eq_zero_iff.1 hz.symm]
      rfl)
    clear hz
    go_enter Tryd.func58, Tryd.ntmps58
    go_wp2
    go_ret2
    exact ⟨by rw [H.out]; rfl, rfl⟩
  · have he : s.toList.isEmpty = false := by
      rw [Lib.toList_data]
      cases hl : s.data.toList with
      | nil => rw [hl] at hz; exact absurd hz h0
      | cons _ _ => rfl
    have HE := Lib.hid (show s.data.toList.isEmpty = false by rw [← Lib.toList_data]; exact he)
    by_cases h4 : s.size ≤ 4
    · cases hp : Req.within 48 57 s.data.toList with
      | false =>
        have H := Lib.hid (show Req.number s.data.toList = none by rw [HD.out, hp]; simp)
        rw [hp] at hW
        clear hz hp
        go_enter Tryd.func58, Tryd.ntmps58
        go_wp2_with (go_at_call 72; refine (hW _).mono ?_; rintro e w' ⟨rfl, rfl⟩)
        go_ret2
        exact ⟨by rw [H.out]; rfl, rfl⟩
      | true =>
        have H := Lib.hid (show Req.number s.data.toList = some (Req.val s.data.toList) by rw [HD.out, hp, HE.out, decide_eq_true (p := s.data.toList.length ≤ 4) (by omega)]; rfl)
        have HG := Lib.hid (fun j hj => within_get hp j hj)
        have HV := Lib.hid (reqVal_lt s (fun j hj => within_get hp j hj))
        rw [hp] at hW
        clear hz hp
        go_enter Tryd.func58, Tryd.ntmps58
        go_wp2_with (go_at_call 72; refine (hW _).mono ?_; rintro e w' ⟨rfl, rfl⟩)
        go_loop [4, 20] (fun v i => ∃ k n : Nat, k ≤ s.size ∧ i = .int .i64 k ∧ v = .int .i64 n ∧ n = Req.val (s.data.toList.take k)) (fun _ i => s.size - (intOf i).toNat)
        case atStart => exact ⟨0, 0, Nat.zero_le _, rfl, rfl, rfl⟩
        case round =>
          obtain ⟨k, n, hk, rfl, rfl, hn⟩ := hrel
          have hlt4 : n < 10000 := by
            rw [hn]
            have := HV.out k hk
            have : 10 ^ k ≤ 10 ^ 4 := Nat.pow_le_pow_right (by omega) (by omega)
            omega
          have HN := Lib.hid hn
          clear hn
          by_cases hlt : k < s.size
          · have hd := of_decide_eq_true (HG.out k hlt)
            have q1 : 48 ≤ s[k].toNat := hd.1
            have q2 : s[k].toNat ≤ 57 := hd.2
            have HK := Lib.hid (reqVal_take s k hlt)
            clear hd
            go_wp2
            go_round
            case rel => exact ⟨k + 1, 10 * n + (s[k].toNat - 48), by omega, by go_num, congrArg (Value.int .i64) (by omega), by rw [HK.out, HN.out]⟩
            case measure => simp [intOf]; omega
          · have HT := Lib.hid (show Req.val s.data.toList = n by rw [HN.out, List.take_of_length_le (by simp; omega)])
            go_wp2
            go_ret2
            exact ⟨by rw [H.out, HT.out]; rfl, rfl⟩
    · have H := Lib.hid (show Req.number s.data.toList = none by rw [HD.out, decide_eq_false (p := s.data.toList.length ≤ 4) (by omega)]; simp)
      clear hz
      go_enter Tryd.func58, Tryd.ntmps58
      go_wp2
      go_ret2
      exact ⟨by rw [H.out]; rfl, rfl⟩
theorem number_any (l : List UInt8) (w : World) (hs : l.length ≤ 1073741824) :
    Calls Tryd.prog 58 #[.string (S l)] w fun e w' => e = numRes (Req.number l) ∧ w = w' := number_s (S l) w hs

/-! ### Headers of a name -/
theorem hdrN_snoc (nm : List UInt8) (a : List Pct.PairL) (q : Pct.PairL) : Req.hdrN nm (a ++ [q]) = Req.hdrN nm a + (if Req.alike q.1 nm = true then 1 else 0) := by
  unfold Req.hdrN
  rw [List.filter_append, List.length_append]
  congr 1
  by_cases h : Req.alike q.1 nm = true <;> simp [h]
theorem hdrN_cons (nm : List UInt8) (a : List Pct.PairL) (q : Pct.PairL) : Req.hdrN nm (q :: a) = Req.hdrN nm a + (if Req.alike q.1 nm = true then 1 else 0) := by
  unfold Req.hdrN
  by_cases h : Req.alike q.1 nm = true <;> simp [h]
theorem hdrN_le (nm : List UInt8) (a : List Pct.PairL) : Req.hdrN nm a ≤ a.length := List.length_filter_le _ _
theorem hdrV_snoc (nm : List UInt8) (q : Pct.PairL) : ∀ a : List Pct.PairL, Req.hdrV nm (a ++ [q]) = if Req.hdrN nm a = 0 then (if Req.alike q.1 nm = true then q.2 else []) else Req.hdrV nm a
  | [] => by simp [Req.hdrV, Req.hdrN]
  | x :: r => by
    have ih := hdrV_snoc nm q r
    rw [List.cons_append, Req.hdrV, Req.hdrV, hdrN_cons, ih]
    by_cases h : Req.alike x.1 nm = true
    · simp [h]
    · simp [h]
theorem hdrV_zero (nm : List UInt8) : ∀ a : List Pct.PairL, Req.hdrN nm a = 0 → [] = Req.hdrV nm a
  | [], _ => rfl
  | x :: r, h => by
    rw [hdrN_cons] at h
    by_cases hx : Req.alike x.1 nm = true
    · rw [if_pos hx] at h; omega
    · rw [if_neg hx] at h
      rw [Req.hdrV, if_neg hx]
      exact hdrV_zero nm r (by omega)

theorem alike_yes (a b : List UInt8) (w : World) (hs : a.length ≤ 1073741824) (h : Req.alike a b = true) :
    Calls Tryd.prog 36 #[.string (S a), .string (S b)] w fun e w' => e = .returned (.bool true) ∧ Below w.heap.size w w' :=
  (alike_any a b w hs).mono fun _ _ ⟨h1, h2⟩ => ⟨by rw [h1, h], below_of_drewN h2⟩
theorem alike_no (a b : List UInt8) (w : World) (hs : a.length ≤ 1073741824) (h : Req.alike a b = false) :
    Calls Tryd.prog 36 #[.string (S a), .string (S b)] w fun e w' => e = .returned (.bool false) ∧ Below w.heap.size w w' :=
  (alike_any a b w hs).mono fun _ _ ⟨h1, h2⟩ => ⟨by rw [h1, h], below_of_drewN h2⟩

set_option maxHeartbeats 400000 in
theorem reqHeader_any (m t : List UInt8) (A : Option Addr) (cap : Nat) (l : List Pct.PairL) (b nm : List UInt8) (w : World) (hl : PCells w w.heap.size A l) (hm : l.length ≤ 1000) (hq : ∀ k (h : k < l.length), l[k].1.length ≤ 1073741824) :
    Calls Tryd.prog 57 #[.agg #[.string (S m), .string (S t), .slice A l.length cap, .string (S b)], .string (S nm)] w (Told w (.returned (.tuple #[.string (S (Req.hdrV nm l)), .int .i64 (Req.hdrN nm l : Int)]))) := by
  go_enter Tryd.func57, Tryd.ntmps57
  go_wp2
  go_loopw [6, 7, 13] (fun val cnt i wr => ∃ (k c : Nat) (x : List UInt8), k ≤ l.length ∧ i = .int .i64 k ∧ val = .string (S x) ∧ cnt = .int .i64 c ∧ x = Req.hdrV nm (l.take k) ∧ c = Req.hdrN nm (l.take k) ∧ Below w.heap.size w wr) (fun _ _ i _ => l.length - (intOf i).toNat)
  case atStart => exact ⟨0, 0, [], Nat.zero_le _, rfl, rfl, rfl, rfl, rfl, (Below.refl _ _).alloc (Nat.le_refl _) _⟩
  case round =>
    obtain ⟨k, c, x, hk, rfl, rfl, rfl, hx, hc, hb⟩ := hrel
    have hck : c ≤ 1000 := by
      rw [hc]
      have := hdrN_le nm (l.take k)
      have h2 : (l.take k).length ≤ k := List.length_take_le _ _
      omega
    have HX := Lib.hid hx
    have HC := Lib.hid hc
    clear hx hc
    by_cases hlt : k < l.length
    · obtain ⟨ab, off, rfl, hbb, hcl⟩ := hl (by omega)
      obtain ⟨c0', c1'⟩ := hcl k hlt
      have hql := hq k hlt
      clear hcl hq
      have HS := Lib.hid (hdrV_snoc nm l[k] (l.take k))
      have HN := Lib.hid (hdrN_snoc nm (l.take k) l[k])
      have HTK := Lib.hid (List.take_succ_eq_append_getElem hlt)
      obtain ⟨n, hn⟩ : ∃ n, n = l[k].1 := ⟨_, rfl⟩
      obtain ⟨v, hv⟩ : ∃ v, v = l[k].2 := ⟨_, rfl⟩
      rw [← hn] at c0' hql
      rw [← hv] at c1'
      have HNN := Lib.hid hn
      have HVV := Lib.hid hv
      clear hn hv
      have c0 : wr.cell? ⟨ab, off + k * 2, none⟩ = some (.string (S n)) := (hb.cell (p := ⟨ab, off + k * 2, none⟩) hbb).trans c0'
      have c1 : wr.cell? ⟨ab, off + k * 2 + 1, none⟩ = some (.string (S v)) := (hb.cell (p := ⟨ab, off + k * 2 + 1, none⟩) hbb).trans c1'
      clear c0' c1'
      have i0 : (0 : Int) ≤ (k : Int) := by omega
      have i1 : (k : Int) < (l.length : Int) := by omega
      cases hnm : Req.alike n nm with
      | true =>
        have HE := Lib.hid hnm
        clear hnm
        by_cases h0 : c = 0
        · have hz : ((c : Int) == 0) = true := by rw [h0]; rfl
          have H0 := Lib.hid h0
          clear h0
          go_wp2_with fail
          refine (alike_yes n nm _ hql HE.out).mono ?_
          rintro e w1 ⟨rfl, hb1⟩
          have d1 := ((Blk2.new wr (S n) (S v)).below hb1 (by simp)).cell1
          have hb2 : Below w.heap.size w w1 := (hb.alloc hb.size _).trans (hb1.mono (by have := hb.size; simp; omega))
          clear hb1
          go_wp2
          go_roundw
          case rel =>
            refine ⟨k + 1, c + 1, v, by omega, by go_num, rfl, by go_num, ?_, ?_, hb2⟩
            · rw [HTK.out, HS.out, ← HC.out, if_pos H0.out, ← HNN.out, if_pos HE.out, HVV.out]
            · rw [HTK.out, HN.out, ← HC.out, ← HNN.out, if_pos HE.out]
          case measure => simp [intOf]; omega
        · have hz : ((c : Int) == 0) = false := by simp; omega
          have H0 := Lib.hid h0
          clear h0
          go_wp2_with fail
          refine (alike_yes n nm _ hql HE.out).mono ?_
          rintro e w1 ⟨rfl, hb1⟩
          have hb2 : Below w.heap.size w w1 := (hb.alloc hb.size _).trans (hb1.mono (by have := hb.size; simp; omega))
          clear hb1
          go_wp2
          go_roundw
          case rel =>
            refine ⟨k + 1, c + 1, x, by omega, by go_num, rfl, by go_num, ?_, ?_, hb2⟩
            · rw [HTK.out, HS.out, ← HC.out, if_neg H0.out, HX.out]
            · rw [HTK.out, HN.out, ← HC.out, ← HNN.out, if_pos HE.out]
          case measure => simp [intOf]; omega
      | false =>
        have HE := Lib.hid (show ¬ Req.alike n nm = true by rw [hnm]; simp)
        have HE2 := Lib.hid hnm
        clear hnm
        go_wp2_with fail
        refine (alike_no n nm _ hql HE2.out).mono ?_
        rintro e w1 ⟨rfl, hb1⟩
        have hb2 : Below w.heap.size w w1 := (hb.alloc hb.size _).trans (hb1.mono (by have := hb.size; simp; omega))
        clear hb1
        go_wp2
        go_roundw
        case rel =>
          refine ⟨k + 1, c, x, by omega, by go_num, rfl, rfl, ?_, ?_, hb2⟩
          · rw [HTK.out, HS.out, ← HNN.out, if_neg HE.out]
            by_cases h0 : Req.hdrN nm (l.take k) = 0
            · rw [if_pos h0, HX.out]
              exact (hdrV_zero nm _ h0).symm
            · rw [if_neg h0, HX.out]
          · rw [HTK.out, HN.out, ← HC.out, ← HNN.out, if_neg HE.out, Nat.add_zero]
        case measure => simp [intOf]; omega
    · have e1 := HX.out
      have e2 := HC.out
      rw [List.take_of_length_le (by omega)] at e1 e2
      have E1 := Lib.hid e1
      have E2 := Lib.hid e2
      clear e1 e2
      go_wp2
      go_ret2
      exact ⟨by rw [E1.out, E2.out]; rfl, hb⟩

/-! ### How long the body is -/
theorem _root_.Go.Proofs.YtehgigfngelkjaaDoor.PCells.below {w w' : World} {B : Nat} {A : Option Addr} {l : List Pct.PairL} (h : PCells w B A l) (hb : Below B w w') : PCells w' B A l := by
  intro hn
  obtain ⟨b, off, rfl, hlt, hc⟩ := h hn
  refine ⟨b, off, rfl, hlt, fun k hk => ?_⟩
  rw [hb.cell (p := ⟨b, off + k * 2, none⟩) hlt, hb.cell (p := ⟨b, off + k * 2 + 1, none⟩) hlt]
  exact hc k hk
theorem _root_.Go.Proofs.YtehgigfngelkjaaDoor.PCells.more {w : World} {B B' : Nat} {A : Option Addr} {l : List Pct.PairL} (h : PCells w B A l) (hB : B ≤ B') : PCells w B' A l := by
  intro hn
  obtain ⟨b, off, rfl, hlt, hc⟩ := h hn
  exact ⟨b, off, rfl, by omega, hc⟩
/-- A block that holds a request. -/
def BlkR (w : World) (g : Nat) (m t : List UInt8) (hv : Value) (b : List UInt8) : Prop := w.heap[g]? = some (.cells #[.string (S m), .string (S t), hv, .string (S b)] 50 (0, 0))
section
variable {w w' : World} {g : Nat} {m t b : List UInt8} {hv : Value}
theorem BlkR.new (w : World) (m t b : List UInt8) (hv : Value) : BlkR (w.alloc (.cells #[.string (S m), .string (S t), hv, .string (S b)] 50)) w.heap.size m t hv b := heap_alloc_new w _
theorem BlkR.below {B : Nat} (h : BlkR w g m t hv b) (hb : Below B w w') (hg : g < B) : BlkR w' g m t hv b := (hb.block g hg).trans h
theorem BlkR.c0 (h : BlkR w g m t hv b) : w.cell? ⟨g, 0, none⟩ = some (.string (S m)) := cell_of_row w g 0 _ _ _ h
theorem BlkR.c1 (h : BlkR w g m t hv b) : w.cell? ⟨g, 1, none⟩ = some (.string (S t)) := cell_of_row w g 1 _ _ _ h
theorem BlkR.c2 (h : BlkR w g m t hv b) : w.cell? ⟨g, 2, none⟩ = some hv := cell_of_row w g 2 _ _ _ h
theorem BlkR.c3 (h : BlkR w g m t hv b) : w.cell? ⟨g, 3, none⟩ = some (.string (S b)) := cell_of_row w g 3 _ _ _ h
theorem BlkR.frozen (h : BlkR w g m t hv b) (i : Nat) : w.frozen? ⟨g, i, none⟩ = false := by
  unfold BlkR at h
  simp [World.frozen?, h]
end

set_option maxHeartbeats 400000 in
theorem bodyLength_any (m t : List UInt8) (A : Option Addr) (cap : Nat) (l : List Pct.PairL) (b : List UInt8) (w : World) (hl : PCells w w.heap.size A l) (hm : l.length ≤ 1000) (hq : ∀ k (h : k < l.length), l[k].1.length ≤ 1073741824) (hv : (Req.hdrV Req.cl l).length ≤ 1073741824) :
    Calls Tryd.prog 45 #[.agg #[.string (S m), .string (S t), .slice A l.length cap, .string (S b)]] w (Told w (numRes (Req.bodyLen l))) := by
  have hb0 := (Below.refl w.heap.size w).alloc (Nat.le_refl _) (.cells #[.string (S m), .string (S t), .slice A l.length cap, .string (S b)] 50)
  have B0 := BlkR.new w m t b (.slice A l.length cap)
  have hl0 : PCells (w.alloc (.cells #[.string (S m), .string (S t), .slice A l.length cap, .string (S b)] 50)) (w.alloc (.cells #[.string (S m), .string (S t), .slice A l.length cap, .string (S b)] 50)).heap.size A l := hl.next hb0
  have hz0 : w.heap.size < (w.alloc (.cells #[.string (S m), .string (S t), .slice A l.length cap, .string (S b)] 50)).heap.size := by simp
  have H := Lib.hid (show Req.bodyLen l = if 0 < Req.hdrN Req.te l then none else if Req.hdrN Req.cl l = 0 then some 0 else if Req.hdrN Req.cl l = 1 then Req.number (Req.hdrV Req.cl l) else none from rfl)
  obtain ⟨n1, hn1⟩ : ∃ n, n = Req.hdrN Req.te l := ⟨_, rfl⟩
  obtain ⟨n2, hn2⟩ : ∃ n, n = Req.hdrN Req.cl l := ⟨_, rfl⟩
  have b1 : n1 ≤ 1000 := by rw [hn1]; exact Nat.le_trans (hdrN_le _ _) hm
  have b2 : n2 ≤ 1000 := by rw [hn2]; exact Nat.le_trans (hdrN_le _ _) hm
  rw [← hn1, ← hn2] at H
  have HTE := Lib.hid (fun w' h => reqHeader_any m t A cap l b Req.te w' h hm hq)
  have HCL := Lib.hid (fun w' h => reqHeader_any m t A cap l b Req.cl w' h hm hq)
  rw [← hn1] at HTE
  rw [← hn2] at HCL
  obtain ⟨x, hx⟩ : ∃ x, x = Req.hdrV Req.cl l := ⟨_, rfl⟩
  rw [← hx] at H HCL hv
  clear hn1 hn2 hx hq
  go_enter Tryd.func45, Tryd.ntmps45
  generalize hW : w.alloc (.cells #[.string (S m), .string (S t), .slice A l.length cap, .string (S b)] 50) = w0 at hb0 B0 hl0 hz0
  have c0 := B0.c0
  have c1 := B0.c1
  have c2 := B0.c2
  have c3 := B0.c3
  go_wp2_with fail
  refine (HTE.out w0 hl0).mono ?_
  rintro e w1 ⟨rfl, hb1⟩
  have hl1 := hl0.next hb1
  have B1 := B0.below hb1 hz0
  have hb1' : Below w.heap.size w w1 := hb0.trans (hb1.mono hb0.size)
  clear c0 c1 c2 c3 hb1 hl0 B0 hb0 hW HTE
  have c0 := B1.c0
  have c1 := B1.c1
  have c2 := B1.c2
  have c3 := B1.c3
  by_cases h1 : 0 < n1
  · have HR := Lib.hid (show Req.bodyLen l = none by rw [H.out, if_pos h1])
    go_wp2
    go_ret2
    exact ⟨by rw [HR.out]; rfl, hb1'⟩
  · go_wp2_with fail
    refine (HCL.out w1 hl1).mono ?_
    rintro e w2 ⟨rfl, hb2⟩
    have hb2' : Below w.heap.size w w2 := hb1'.trans (hb2.mono hb1'.size)
    clear c0 c1 c2 c3 hb2
    by_cases h2 : n2 = 0
    · have HR := Lib.hid (show Req.bodyLen l = some 0 by rw [H.out, if_neg h1, if_pos h2])
      have e2 : ((n2 : Int) == 0) = true := by rw [h2]; rfl
      clear h2
      go_wp2
      go_ret2
      exact ⟨by rw [HR.out]; rfl, hb2'⟩
    · have e2 : ((n2 : Int) == 0) = false := by simp; omega
      by_cases h3 : n2 = 1
      · have HR := Lib.hid (show Req.bodyLen l = Req.number x by rw [H.out, if_neg h1, if_neg h2, if_pos h3])
        have e3 : ((n2 : Int) == 1) = true := by rw [h3]; rfl
        clear h2 h3
        have hN := fun w' => number_any x w' hv
        cases hx : Req.number x with
        | none =>
          rw [hx] at hN HR
          clear hx
          go_wp2_with (go_at_call 58; refine (hN _).mono ?_; rintro e w' ⟨rfl, rfl⟩; unfold numRes)
          go_ret2
          exact ⟨by rw [HR.out]; rfl, hb2'⟩
        | some n =>
          rw [hx] at hN HR
          clear hx
          go_wp2_with (go_at_call 58; refine (hN _).mono ?_; rintro e w' ⟨rfl, rfl⟩; unfold numRes)
          go_ret2
          exact ⟨by rw [HR.out]; rfl, hb2'⟩
      · have e3 : ((n2 : Int) == 1) = false := by simp; omega
        have HR := Lib.hid (show Req.bodyLen l = none by rw [H.out, if_neg h1, if_neg h2, if_neg h3])
        clear h2 h3
        go_wp2
        go_ret2
        exact ⟨by rw [HR.out]; rfl, hb2'⟩
end Rq
end Go.Proofs.YtehgigfngelkjaaDoor
