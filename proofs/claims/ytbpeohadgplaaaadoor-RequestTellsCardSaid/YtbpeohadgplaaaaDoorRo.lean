/- What the document's own Alike, Header and length of requests answer, for any texts of at most 2^30 bytes and at most 1000 headers. -/
import Derived.Test.YtbpeohadgplaaaaDoorRn
namespace Go.Proofs.YtbpeohadgplaaaaDoor
set_option maxRecDepth 8000
open Go.RowKit

set_option maxHeartbeats 800000 in
theorem refAlike_s (s t : ByteArray) (w : World) (hs : s.size ≤ 1073741824) :
    Calls Tryd.prog 32 #[.string s, .string t] w fun e w' => e = .returned (.bool (Req.alike s.data.toList t.data.toList)) ∧ w = w' := by
  by_cases hlen : s.size = t.size
  · have hne : ((s.size : Int) != (t.size : Int)) = false := by simp; omega
    have HL := Lib.hid hlen
    clear hlen
    go_enter Tryd.func32, Tryd.ntmps32
    go_wp2
    go_loop [5] (fun i => ∃ k : Nat, k ≤ s.size ∧ i = .int .i64 k ∧ ∀ j (hj : j < s.size) (hj' : j < t.size), j < k → Req.low s[j] = Req.low t[j]) (fun i => s.size - (intOf i).toNat)
    case atStart => exact ⟨0, Nat.zero_le _, rfl, fun j _ _ hj => absurd hj (by omega)⟩
    case round =>
      obtain ⟨k, hk, rfl, hall⟩ := hrel
      have HALL := Lib.hid hall
      clear hall
      by_cases hlt : k < s.size
      · have hlt' : k < t.size := by have := HL.out; omega
        have b1 := Pct.u8_lt s[k]
        have b2 := Pct.u8_lt t[k]
        have HNE := Lib.hid (show Req.low s[k] ≠ Req.low t[k] → Req.alike s.data.toList t.data.toList = false from fun he => decide_eq_false fun e => he (by
          have := congrArg (fun l => l[k]?) e
          simp only [List.getElem?_map] at this
          rw [Lib.data_getElem? s k hlt, Lib.data_getElem? t k hlt'] at this
          exact Option.some.inj this))
        have HEQ := Lib.hid (show Req.low s[k] = Req.low t[k] → ∀ j (hj : j < s.size) (hj' : j < t.size), j < k + 1 → Req.low s[j] = Req.low t[j] from fun he j hj hj' hjk => by
          by_cases e : j = k
          · subst e; exact he
          · exact HALL.out j hj hj' (by omega))
        by_cases hx : 65 ≤ s[k].toNat ∧ s[k].toNat ≤ 90
        · by_cases hy : 65 ≤ t[k].toNat ∧ t[k].toNat ≤ 90
          · have X0 : ((Req.low s[k]).toNat : Int) = ((s[k].toNat : Int) + 32) := by rw [low_add s[k] hx.1 hx.2]; rfl
            have Y0 : ((Req.low t[k]).toNat : Int) = ((t[k].toNat : Int) + 32) := by rw [low_add t[k] hy.1 hy.2]; rfl
            by_cases he : Req.low s[k] = Req.low t[k]
            · have hb : (((s[k].toNat : Int) + 32) != ((t[k].toNat : Int) + 32)) = false := by rw [← X0, ← Y0, he]; simp
              have HS := Lib.hid (HEQ.out he)
              clear X0 Y0 he
              obtain ⟨hx1, hx2⟩ := hx
              obtain ⟨hy1, hy2⟩ := hy
              go_wp2
              all_goals first
                | (go_round
                   case rel => exact ⟨k + 1, by omega, by go_num, HS.out⟩
                   case measure => simp [intOf]; omega)
                | (exfalso; omega)
            · have hb : (((s[k].toNat : Int) + 32) != ((t[k].toNat : Int) + 32)) = true := by rw [← X0, ← Y0]; exact bne_iff_ne.2 fun e => he (Pct.u8_eq (by omega))
              have HF := Lib.hid (HNE.out he)
              clear X0 Y0 he
              obtain ⟨hx1, hx2⟩ := hx
              obtain ⟨hy1, hy2⟩ := hy
              go_wp2
              all_goals first
                | (go_ret
                   exact ⟨ret_bool HF.out.symm, rfl⟩)
                | (exfalso; omega)
          · have X0 : ((Req.low s[k]).toNat : Int) = ((s[k].toNat : Int) + 32) := by rw [low_add s[k] hx.1 hx.2]; rfl
            have Y0 : ((Req.low t[k]).toNat : Int) = (t[k].toNat : Int) := by rw [low_same t[k] hy]
            by_cases he : Req.low s[k] = Req.low t[k]
            · have hb : (((s[k].toNat : Int) + 32) != (t[k].toNat : Int)) = false := by rw [← X0, ← Y0, he]; simp
              have HS := Lib.hid (HEQ.out he)
              clear X0 Y0 he
              obtain ⟨hx1, hx2⟩ := hx
              go_wp2
              all_goals first
                | (go_round
                   case rel => exact ⟨k + 1, by omega, by go_num, HS.out⟩
                   case measure => simp [intOf]; omega)
                | (exfalso; omega)
            · have hb : (((s[k].toNat : Int) + 32) != (t[k].toNat : Int)) = true := by rw [← X0, ← Y0]; exact bne_iff_ne.2 fun e => he (Pct.u8_eq (by omega))
              have HF := Lib.hid (HNE.out he)
              clear X0 Y0 he
              obtain ⟨hx1, hx2⟩ := hx
              go_wp2
              all_goals first
                | (go_ret
                   exact ⟨ret_bool HF.out.symm, rfl⟩)
                | (exfalso; omega)
        · by_cases hy : 65 ≤ t[k].toNat ∧ t[k].toNat ≤ 90
          · have X0 : ((Req.low s[k]).toNat : Int) = (s[k].toNat : Int) := by rw [low_same s[k] hx]
            have Y0 : ((Req.low t[k]).toNat : Int) = ((t[k].toNat : Int) + 32) := by rw [low_add t[k] hy.1 hy.2]; rfl
            by_cases he : Req.low s[k] = Req.low t[k]
            · have hb : ((s[k].toNat : Int) != ((t[k].toNat : Int) + 32)) = false := by rw [← X0, ← Y0, he]; simp
              have HS := Lib.hid (HEQ.out he)
              clear X0 Y0 he
              obtain ⟨hy1, hy2⟩ := hy
              go_wp2
              all_goals first
                | (go_round
                   case rel => exact ⟨k + 1, by omega, by go_num, HS.out⟩
                   case measure => simp [intOf]; omega)
                | (exfalso; omega)
            · have hb : ((s[k].toNat : Int) != ((t[k].toNat : Int) + 32)) = true := by rw [← X0, ← Y0]; exact bne_iff_ne.2 fun e => he (Pct.u8_eq (by omega))
              have HF := Lib.hid (HNE.out he)
              clear X0 Y0 he
              obtain ⟨hy1, hy2⟩ := hy
              go_wp2
              all_goals first
                | (go_ret
                   exact ⟨ret_bool HF.out.symm, rfl⟩)
                | (exfalso; omega)
          · have X0 : ((Req.low s[k]).toNat : Int) = (s[k].toNat : Int) := by rw [low_same s[k] hx]
            have Y0 : ((Req.low t[k]).toNat : Int) = (t[k].toNat : Int) := by rw [low_same t[k] hy]
            by_cases he : Req.low s[k] = Req.low t[k]
            · have hb : ((s[k].toNat : Int) != (t[k].toNat : Int)) = false := by rw [← X0, ← Y0, he]; simp
              have HS := Lib.hid (HEQ.out he)
              clear X0 Y0 he
              go_wp2
              all_goals first
                | (go_round
                   case rel => exact ⟨k + 1, by omega, by go_num, HS.out⟩
                   case measure => simp [intOf]; omega)
                | (exfalso; omega)
            · have hb : ((s[k].toNat : Int) != (t[k].toNat : Int)) = true := by rw [← X0, ← Y0]; exact bne_iff_ne.2 fun e => he (Pct.u8_eq (by omega))
              have HF := Lib.hid (HNE.out he)
              clear X0 Y0 he
              go_wp2
              all_goals first
                | (go_ret
                   exact ⟨ret_bool HF.out.symm, rfl⟩)
                | (exfalso; omega)
      · have HT := Lib.hid (show Req.alike s.data.toList t.data.toList = true from decide_eq_true (by
          have hl := HL.out
          apply List.ext_getElem?
          intro j
          rw [List.getElem?_map, List.getElem?_map]
          by_cases hj : j < s.size
          · rw [Lib.data_getElem? s j hj, Lib.data_getElem? t j (by omega)]
            exact congrArg some (HALL.out j hj (by omega) (by omega))
          · rw [List.getElem?_eq_none (by simp; omega), List.getElem?_eq_none (by simp; omega)]))
        go_wp2
        go_ret
        exact ⟨ret_bool HT.out.symm, rfl⟩
  · have hne : ((s.size : Int) != (t.size : Int)) = true := by simp; omega
    have HF := Lib.hid (alike_len (a := s.data.toList) (b := t.data.toList) (by simpa using hlen))
    clear hlen
    go_enter Tryd.func32, Tryd.ntmps32
    go_wp2
    go_ret
    exact ⟨ret_bool HF.out.symm, rfl⟩
theorem refAlike_to (a b : List UInt8) (o : Bool) (w : World) (hs : a.length ≤ 1073741824) (h : Req.alike a b = o) :
    Calls Tryd.prog 32 #[.string (S a), .string (S b)] w fun e w' => e = .returned (.bool o) ∧ w = w' := by
  rw [← h]
  exact refAlike_s (S a) (S b) w hs

set_option maxHeartbeats 400000 in
theorem refHeader_any (m t : List UInt8) (A : Option Addr) (cap : Nat) (l : List Pct.PairL) (b nm : List UInt8) (w : World) (hl : PCells w w.heap.size A l) (hm : l.length ≤ 1000) (hq : ∀ k (h : k < l.length), l[k].1.length ≤ 1073741824) :
    Calls Tryd.prog 25 #[.agg #[.string (S m), .string (S t), .slice A l.length cap, .string (S b)], .string (S nm)] w (Told w (.returned (.tuple #[.string (S (Req.hdrV nm l)), .int .i64 (Req.hdrN nm l : Int)]))) := by
  have hb0 := below_alloc w (.cells #[.string (S m), .string (S t), .slice A l.length cap, .string (S b)] 33)
  have B0 := BlkR.new w m t b (.slice A l.length cap)
  have p0 := hl.next hb0
  generalize hW : w.alloc (.cells #[.string (S m), .string (S t), .slice A l.length cap, .string (S b)] 33) = w0 at hb0 B0 p0
  have d2 := B0.c2
  go_enter Tryd.func25, Tryd.ntmps25
  go_wp2
  go_loop [6, 7, 8] (fun val cnt i => ∃ (k c : Nat) (x : List UInt8) (z : Int), k ≤ l.length ∧ z = (k : Int) - 1 ∧ i = .int .i64 z ∧ val = .string (S x) ∧ cnt = .int .i64 c ∧ x = Req.hdrV nm (l.drop k) ∧ c = Req.hdrN nm (l.drop k)) (fun _ _ i => (intOf i + 1).toNat)
  case atStart => exact ⟨l.length, 0, [], _, Nat.le_refl _, rfl, rfl, rfl, rfl, by simp [Req.hdrV], by simp [Req.hdrN]⟩
  case round =>
    obtain ⟨k, c, x, z, hk, hz, rfl, rfl, rfl, hx, hc⟩ := hrel
    have hck : c ≤ 1000 := by
      rw [hc]
      have := hdrN_le nm (l.drop k)
      have h2 : (l.drop k).length ≤ l.length := by rw [List.length_drop]; omega
      omega
    have HX := Lib.hid hx
    have HC := Lib.hid hc
    clear hx hc
    cases k with
    | zero =>
      obtain rfl : z = -1 := by omega
      have e1 := HX.out
      have e2 := HC.out
      rw [List.drop_zero] at e1 e2
      have E1 := Lib.hid e1
      have E2 := Lib.hid e2
      clear e1 e2 hz
      go_wp2
      go_ret2
      exact ⟨by rw [E1.out, E2.out]; rfl, hb0⟩
    | succ j =>
      obtain rfl : z = (j : Int) := by omega
      clear hz
      have hlt : j < l.length := by omega
      obtain ⟨ab, off, hA, hbb, hcl⟩ := p0 (by omega)
      obtain ⟨c0, c1⟩ := hcl j hlt
      have hql := hq j hlt
      clear hcl hq
      have HD := Lib.hid (List.drop_eq_getElem_cons hlt)
      obtain ⟨n, hn⟩ : ∃ n, n = l[j].1 := ⟨_, rfl⟩
      obtain ⟨v, hv⟩ : ∃ v, v = l[j].2 := ⟨_, rfl⟩
      rw [← hn] at c0 hql
      rw [← hv] at c1
      have HQ := Lib.hid (show l[j] = (n, v) by rw [hn, hv])
      clear hn hv
      have i0 : (0 : Int) ≤ (j : Int) := by omega
      have i1 : (j : Int) < (l.length : Int) := by omega
      subst hA
      cases hnm : Req.alike n nm with
      | true =>
        have hAl := fun w' => refAlike_to n nm true w' hql hnm
        have HV := Lib.hid (show Req.hdrV nm (l.drop j) = v by rw [HD.out, HQ.out, Req.hdrV, if_pos hnm])
        have HN := Lib.hid (show Req.hdrN nm (l.drop j) = c + 1 by rw [HD.out, HQ.out, hdrN_cons, if_pos hnm, HC.out])
        clear hnm
        go_wp2_with (go_at_call 32; refine (hAl _).mono ?_; rintro e w' ⟨rfl, rfl⟩)
        go_round
        case rel => exact ⟨j, c + 1, v, _, by omega, rfl, rfl, rfl, by go_num, HV.out.symm, HN.out.symm⟩
        case measure => simp [intOf]
      | false =>
        have hAl := fun w' => refAlike_to n nm false w' hql hnm
        have hnt : ¬ Req.alike n nm = true := by rw [hnm]; simp
        have HV := Lib.hid (show Req.hdrV nm (l.drop j) = x by rw [HD.out, HQ.out, Req.hdrV, if_neg hnt, HX.out])
        have HN := Lib.hid (show Req.hdrN nm (l.drop j) = c by rw [HD.out, HQ.out, hdrN_cons, if_neg hnt, HC.out, Nat.add_zero])
        clear hnm hnt
        go_wp2_with (go_at_call 32; refine (hAl _).mono ?_; rintro e w' ⟨rfl, rfl⟩)
        go_round
        case rel => exact ⟨j, c, x, _, by omega, rfl, rfl, rfl, rfl, HV.out.symm, HN.out.symm⟩
        case measure => simp [intOf]

def lenRes (o : Option Nat) : Ending :=
  match o with
  | some n => .returned (.int .i64 (n : Int))
  | none => .returned (.int .i64 (-1))

set_option maxHeartbeats 800000 in
theorem refLength_any (m t : List UInt8) (A : Option Addr) (cap : Nat) (l : List Pct.PairL) (b : List UInt8) (w : World) (hl : PCells w w.heap.size A l) (hm : l.length ≤ 1000) (hq : ∀ k (h : k < l.length), l[k].1.length ≤ 1073741824) (hv : (Req.hdrV Req.cl l).length ≤ 1073741824) :
    Calls Tryd.prog 58 #[.agg #[.string (S m), .string (S t), .slice A l.length cap, .string (S b)]] w (Told w (lenRes (Req.bodyLen l))) := by
  have hb0 := below_alloc w (.cells #[.string (S m), .string (S t), .slice A l.length cap, .string (S b)] 33)
  have B0 := BlkR.new w m t b (.slice A l.length cap)
  have p0 := hl.next hb0
  have hz0 : w.heap.size < (w.alloc (.cells #[.string (S m), .string (S t), .slice A l.length cap, .string (S b)] 33)).heap.size := by simp
  have H := Lib.hid (show Req.bodyLen l = if 0 < Req.hdrN Req.te l then none else if Req.hdrN Req.cl l = 0 then some 0 else if Req.hdrN Req.cl l = 1 then Req.number (Req.hdrV Req.cl l) else none from rfl)
  obtain ⟨n1, hn1⟩ : ∃ n, n = Req.hdrN Req.te l := ⟨_, rfl⟩
  obtain ⟨n2, hn2⟩ : ∃ n, n = Req.hdrN Req.cl l := ⟨_, rfl⟩
  have b1 : n1 ≤ 1000 := by rw [hn1]; exact Nat.le_trans (hdrN_le _ _) hm
  have b2 : n2 ≤ 1000 := by rw [hn2]; exact Nat.le_trans (hdrN_le _ _) hm
  rw [← hn1, ← hn2] at H
  have HTE := Lib.hid (fun w' h => refHeader_any m t A cap l b Req.te w' h hm hq)
  have HCL := Lib.hid (fun w' h => refHeader_any m t A cap l b Req.cl w' h hm hq)
  rw [← hn1] at HTE
  rw [← hn2] at HCL
  obtain ⟨x, hx⟩ : ∃ x, x = Req.hdrV Req.cl l := ⟨_, rfl⟩
  rw [← hx] at H HCL hv
  clear hn1 hn2 hx hq
  generalize hW : w.alloc (.cells #[.string (S m), .string (S t), .slice A l.length cap, .string (S b)] 33) = w0 at hb0 B0 p0 hz0
  have c0 := B0.c0
  have c1 := B0.c1
  have c2 := B0.c2
  have c3 := B0.c3
  go_enter Tryd.func58, Tryd.ntmps58
  go_wp2_with fail
  refine (HTE.out w0 p0).mono ?_
  rintro e w1 ⟨rfl, hb1⟩
  have p1 := p0.next hb1
  have B1 := B0.below hb1 hz0
  have hb1' := below_step hb0 hb1
  clear c0 c1 c2 c3 hb1 p0 B0 hb0 hW HTE
  have c0 := B1.c0
  have c1 := B1.c1
  have c2 := B1.c2
  have c3 := B1.c3
  go_wp2_with fail
  refine (HCL.out w1 p1).mono ?_
  rintro e w2 ⟨rfl, hb2⟩
  have hb2' := below_step hb1' hb2
  clear c0 c1 c2 c3 hb2 B1 p1 hb1'
  by_cases h1 : 0 < n1
  · have HR := Lib.hid (show Req.bodyLen l = none by rw [H.out, if_pos h1])
    go_wp2
    go_ret
    exact ⟨by rw [HR.out]; rfl, hb2'⟩
  · by_cases h2 : n2 = 0
    · have HR := Lib.hid (show Req.bodyLen l = some 0 by rw [H.out, if_neg h1, if_pos h2])
      subst h2
      go_wp2
      go_ret
      exact ⟨by rw [HR.out]; rfl, hb2'⟩
    · have e2 : ((n2 : Int) == 0) = false := by simp; omega
      by_cases h3 : n2 = 1
      · have HR := Lib.hid (show Req.bodyLen l = Req.number x by rw [H.out, if_neg h1, if_neg h2, if_pos h3])
        have h31 : ¬ 1 < n2 := by omega
        clear h2 h3 H
        obtain ⟨s, hs⟩ : ∃ s, s = S x := ⟨_, rfl⟩
        have hsx : s.data.toList = x := by rw [hs]; rfl
        rw [← hs]
        have hsz : s.size ≤ 1073741824 := by rw [hs]; exact hv
        rw [← hsx] at HR
        clear hs hsx hv
        have hz := Lib.size_eq s
        have HD := Lib.hid (show Req.number s.data.toList = if !s.data.toList.isEmpty && decide (s.data.toList.length ≤ 4) && Req.within 48 57 s.data.toList then some (Req.val s.data.toList) else none from rfl)
        by_cases h0 : s.size = 0
        · have he : s.toList.isEmpty = true := by
            rw [Lib.toList_data]
            rw [h0] at hz
            rw [List.length_eq_zero_iff.1 hz.symm]
            rfl
          have HR' := Lib.hid (show Req.bodyLen l = none by
            rw [HR.out]
            rw [h0] at hz
            rw [List.length_eq_zero_iff.1 hz.symm]
            rfl)
          clear hz
          go_wp2
          go_ret
          exact ⟨by rw [HR'.out]; rfl, hb2'⟩
        · have he : s.toList.isEmpty = false := by
            rw [Lib.toList_data]
            cases hl : s.data.toList with
            | nil => rw [hl] at hz; exact absurd hz h0
            | cons _ _ => rfl
          have HE := Lib.hid (show s.data.toList.isEmpty = false by rw [← Lib.toList_data]; exact he)
          by_cases h4 : s.size ≤ 4
          · have H4 := Lib.hid (show decide (s.data.toList.length ≤ 4) = true from decide_eq_true (by omega))
            clear hz
            go_wp2
            go_loop [7, 8] (fun v i => ∃ k n : Nat, k ≤ s.size ∧ i = .int .i64 k ∧ v = .int .i64 n ∧ n = Req.val (s.data.toList.take k) ∧ n < 10 ^ k ∧ ∀ j (hj : j < s.size), j < k → Req.inB 48 57 s[j] = true) (fun _ i => s.size - (intOf i).toNat)
            case atStart => exact ⟨0, 0, Nat.zero_le _, rfl, rfl, rfl, by decide, fun j _ hj => absurd hj (by omega)⟩
            case round =>
              obtain ⟨k, n, hk, rfl, rfl, hn, hn10, hall⟩ := hrel
              have hlt4 : n < 10000 := by
                have : 10 ^ k ≤ 10 ^ 4 := Nat.pow_le_pow_right (by omega) (by omega)
                omega
              have HN := Lib.hid hn
              have HN10 := Lib.hid hn10
              have HALL := Lib.hid hall
              clear hn hn10 hall
              by_cases hlt : k < s.size
              · cases hok : Req.inB 48 57 s[k] with
                | true =>
                  have hd := of_decide_eq_true hok
                  have q1 : 48 ≤ s[k].toNat := hd.1
                  have q2 : s[k].toNat ≤ 57 := hd.2
                  have HK := Lib.hid (reqVal_take s k hlt)
                  have HOK := Lib.hid hok
                  clear hd hok
                  go_wp2
                  go_round
                  case rel =>
                    refine ⟨k + 1, 10 * n + (s[k].toNat - 48), by omega, by go_num, congrArg (Value.int .i64) (by omega), by rw [HK.out, HN.out], by have := HN10.out; rw [Nat.pow_succ]; omega, fun j hj hjk => ?_⟩
                    by_cases e : j = k
                    · subst e; exact HOK.out
                    · exact HALL.out j hj (by omega)
                  case measure => simp [intOf]; omega
                | false =>
                  have HR' := Lib.hid (show Req.bodyLen l = none by
                    rw [HR.out, HD.out, show Req.within 48 57 s.data.toList = false from all_bad hlt hok]
                    simp)
                  have HB := Lib.hid (of_decide_eq_false hok)
                  clear hok
                  go_wp2
                  all_goals first
                    | (go_ret
                       exact ⟨by rw [HR'.out]; rfl, hb2'⟩)
                    | (exfalso
                       have := HB.out
                       omega)
              · have HR' := Lib.hid (show Req.bodyLen l = some n by
                  rw [HR.out, HD.out, HE.out, H4.out, show Req.within 48 57 s.data.toList = true from all_of_get fun j hj => HALL.out j hj (by omega), HN.out, List.take_of_length_le (by simp; omega)]
                  rfl)
                go_wp2
                go_ret
                exact ⟨by rw [HR'.out]; rfl, hb2'⟩
          · have HR' := Lib.hid (show Req.bodyLen l = none by rw [HR.out, HD.out, decide_eq_false (p := s.data.toList.length ≤ 4) (by omega)]; simp)
            clear hz
            go_wp2
            go_ret
            exact ⟨by rw [HR'.out]; rfl, hb2'⟩
      · have HR := Lib.hid (show Req.bodyLen l = none by rw [H.out, if_neg h1, if_neg h2, if_neg h3])
        have h31 : 1 < n2 := by omega
        clear h2 h3
        go_wp2
        go_ret
        exact ⟨by rw [HR.out]; rfl, hb2'⟩
end Go.Proofs.YtbpeohadgplaaaaDoor
