/- What the document's own Shown, Token, Same (of requests that are alike) and Few of requests answer. -/
import Derived.Test.YtbpeohadgplaaaaDoorRh
import Derived.Test.YtbpeohadgplaaaaDoorFew
namespace Go.Proofs.YtbpeohadgplaaaaDoor
set_option maxRecDepth 8000
open Go.RowKit

set_option maxHeartbeats 400000 in
theorem shown_s (s : ByteArray) (lo : Nat) (w : World) (hs : s.size ≤ 1073741824) :
    Calls Tryd.prog 33 #[.string s, .int .u8 (lo : Int)] w fun e w' => e = .returned (.bool (Req.within lo 126 s.data.toList)) ∧ w = w' := by
  go_enter Tryd.func33, Tryd.ntmps33
  go_wp2
  go_loop [5] (fun i => ∃ k : Nat, k ≤ s.size ∧ i = .int .i64 k ∧ ∀ j (hj : j < s.size), j < k → Req.inB lo 126 s[j] = true) (fun i => s.size - (intOf i).toNat)
  case atStart => exact ⟨0, Nat.zero_le _, rfl, fun j _ hj => absurd hj (by omega)⟩
  case round =>
    obtain ⟨k, hk, rfl, hall⟩ := hrel
    have HALL := Lib.hid hall
    clear hall
    by_cases hlt : k < s.size
    · cases hok : Req.inB lo 126 s[k] with
      | true =>
        have hd := of_decide_eq_true hok
        have HT := Lib.hid hok
        clear hok
        have q1 : lo ≤ s[k].toNat := hd.1
        have q2 : s[k].toNat ≤ 126 := hd.2
        clear hd
        go_wp2
        go_round
        case rel =>
          refine ⟨k + 1, by omega, by go_num, fun j hj hjk => ?_⟩
          by_cases e : j = k
          · subst e; exact HT.out
          · exact HALL.out j hj (by omega)
        case measure => simp [intOf]; omega
      | false =>
        have HF := Lib.hid (show Req.within lo 126 s.data.toList = false from all_bad hlt hok)
        have HD := Lib.hid (of_decide_eq_false hok)
        clear hok
        go_wp2
        all_goals first
          | (go_ret
             exact ⟨ret_bool HF.out.symm, rfl⟩)
          | (exfalso
             have := HD.out
             omega)
    · have HT := Lib.hid (show Req.within lo 126 s.data.toList = true from all_of_get fun j hj => HALL.out j hj (by omega))
      go_wp2
      go_ret
      exact ⟨ret_bool HT.out.symm, rfl⟩
theorem shown_any (l : List UInt8) (lo : Nat) (a : Int) (w : World) (hs : l.length ≤ 1073741824) (ha : a = lo) :
    Calls Tryd.prog 33 #[.string (S l), .int .u8 a] w fun e w' => e = .returned (.bool (Req.within lo 126 l)) ∧ w = w' := by
  subst ha
  exact shown_s (S l) lo w hs

set_option maxHeartbeats 800000 in
theorem refToken_s (s : ByteArray) (w : World) (hs : s.size ≤ 1073741824) :
    Calls Tryd.prog 34 #[.string s] w fun e w' => e = .returned (.bool (Req.token s.data.toList)) ∧ w = w' := by
  have HE := Lib.hid (show s.toList.isEmpty = s.data.toList.isEmpty by rw [Lib.toList_data])
  go_enter Tryd.func34, Tryd.ntmps34
  go_wp2
  go_loop [3] (fun i => ∃ k : Nat, k ≤ s.size ∧ i = .int .i64 k ∧ ∀ j (hj : j < s.size), j < k → Req.tokB s[j] = true) (fun i => s.size - (intOf i).toNat)
  case atStart => exact ⟨0, Nat.zero_le _, rfl, fun j _ hj => absurd hj (by omega)⟩
  case round =>
    obtain ⟨k, hk, rfl, hall⟩ := hrel
    have HALL := Lib.hid hall
    clear hall
    by_cases hlt : k < s.size
    · cases hok : Req.tokB s[k] with
      | true =>
        have hd := of_decide_eq_true hok
        have hround : ∀ j (hj : j < s.size), j < k + 1 → Req.tokB s[j] = true := fun j hj hjk => by
          by_cases e : j = k
          · subst e; exact hok
          · exact HALL.out j hj (by omega)
        have HRD := Lib.hid hround
        clear hround hok
        rcases hd with hd | hd | hd | hd
        · have q1 : 97 ≤ s[k].toNat := hd.1
          have q2 : s[k].toNat ≤ 122 := hd.2
          clear hd
          go_wp2
          go_round
          case rel => exact ⟨k + 1, by omega, by go_num, HRD.out⟩
          case measure => simp [intOf]; omega
        · have q1 : 65 ≤ s[k].toNat := hd.1
          have q2 : s[k].toNat ≤ 90 := hd.2
          clear hd
          go_wp2
          go_round
          case rel => exact ⟨k + 1, by omega, by go_num, HRD.out⟩
          case measure => simp [intOf]; omega
        · have q1 : 48 ≤ s[k].toNat := hd.1
          have q2 : s[k].toNat ≤ 57 := hd.2
          clear hd
          go_wp2
          go_round
          case rel => exact ⟨k + 1, by omega, by go_num, HRD.out⟩
          case measure => simp [intOf]; omega
        · have q0 : s[k].toNat = 45 := hd
          have q1 : ((s[k].toNat : Int) != 45) = false := by simp; omega
          have q2 : (s[k].toNat : Int) < 48 := by omega
          clear hd q0
          go_wp2
          go_round
          case rel => exact ⟨k + 1, by omega, by go_num, HRD.out⟩
          case measure => simp [intOf]; omega
      | false =>
        have HF := Lib.hid (show Req.token s.data.toList = false by unfold Req.token; rw [all_bad hlt hok]; simp)
        have HC := Lib.hid (of_decide_eq_false hok)
        have q1 : ((s[k].toNat : Int) != 45) = true := bne_iff_ne.2 (fun e => HC.out (by omega))
        clear hok
        go_wp2
        all_goals first
          | (go_ret
             exact ⟨ret_bool HF.out.symm, rfl⟩)
          | (exfalso
             have := HC.out
             omega)
    · have HT := Lib.hid (show Req.token s.data.toList = !s.toList.isEmpty by
        unfold Req.token
        rw [all_of_get fun j hj => HALL.out j hj (by omega), Bool.and_true, HE.out])
      go_wp2
      go_ret
      exact ⟨ret_bool HT.out.symm, rfl⟩
theorem refToken_any (l : List UInt8) (w : World) (hs : l.length ≤ 1073741824) :
    Calls Tryd.prog 34 #[.string (S l)] w fun e w' => e = .returned (.bool (Req.token l)) ∧ w = w' := refToken_s (S l) w hs

theorem beq_self_S (a : List UInt8) : ((S a).toList == (S a).toList) = true := by simp

set_option maxHeartbeats 400000 in
theorem same_yes (m t : List UInt8) (A A' : Option Addr) (cap cap' : Nat) (l : List Pct.PairL) (b : List UInt8) (w : World) (hl : PCells w w.heap.size A l) (hl' : PCells w w.heap.size A' l) (hn : l.length ≤ 1099511627776) :
    Calls Tryd.prog 18 #[.agg #[.string (S m), .string (S t), .slice A l.length cap, .string (S b)], .agg #[.string (S m), .string (S t), .slice A' l.length cap', .string (S b)]] w (Told w (.returned (.bool true))) := by
  have hb0 := below_alloc w (.cells #[.string (S m), .string (S t), .slice A l.length cap, .string (S b)] 33)
  have B0 := BlkR.new w m t b (.slice A l.length cap)
  have hz0 : w.heap.size < (w.alloc (.cells #[.string (S m), .string (S t), .slice A l.length cap, .string (S b)] 33)).heap.size := by simp
  have p0 := hl.next hb0
  have p0' := hl'.next hb0
  have hb1 := below_alloc (w.alloc (.cells #[.string (S m), .string (S t), .slice A l.length cap, .string (S b)] 33)) (.cells #[.string (S m), .string (S t), .slice A' l.length cap', .string (S b)] 33)
  have p1 := p0.next hb1
  have p1' := p0'.next hb1
  have hbb := below_step hb0 hb1
  clear p0 p0' hb0 hb1 B0 hz0 hl hl'
  have e1 := beq_self_S m
  have e2 := beq_self_S t
  have e3 := beq_self_S b
  go_enter Tryd.func18, Tryd.ntmps18
  go_wp2_with fail
  refine (pairs_any _ _ l l _ ⟨A, cap, rfl, p1⟩ ⟨A', cap', rfl, p1'⟩ hn).mono ?_
  rintro e w2 ⟨rfl, n, rfl⟩
  rw [show decide (l = l) = true from decide_eq_true rfl]
  go_wp2
  go_ret
  exact ⟨rfl, below_drewN hbb n⟩

def fewRB (m t : List UInt8) (l : List Pct.PairL) (b : List UInt8) : Bool := fewB l && (decide (m.length ≤ 20) && (decide (t.length ≤ 300) && decide (b.length ≤ 300)))
set_option maxHeartbeats 400000 in
theorem fewR_any (m t : List UInt8) (A : Option Addr) (cap : Nat) (l : List Pct.PairL) (b : List UInt8) (w : World) (hl : PCells w w.heap.size A l) (hm : l.length ≤ 9223372036854775807) :
    Calls Tryd.prog 19 #[.agg #[.string (S m), .string (S t), .slice A l.length cap, .string (S b)]] w (Told w (.returned (.bool (fewRB m t l b)))) := by
  have hb0 := below_alloc w (.cells #[.string (S m), .string (S t), .slice A l.length cap, .string (S b)] 33)
  have B0 := BlkR.new w m t b (.slice A l.length cap)
  have p0 := hl.next hb0
  have H := Lib.hid (show fewRB m t l b = (fewB l && (decide ((S m).size ≤ 20) && (decide ((S t).size ≤ 300) && decide ((S b).size ≤ 300)))) from rfl)
  have HFW := Lib.hid (fun w' h => few_any A cap l w' h hm)
  generalize hW : w.alloc (.cells #[.string (S m), .string (S t), .slice A l.length cap, .string (S b)] 33) = w0 at hb0 B0 p0
  have c0 := B0.c0
  have c1 := B0.c1
  have c2 := B0.c2
  have c3 := B0.c3
  cases hf : fewB l with
  | false =>
    rw [hf] at H HFW
    clear hf
    go_enter Tryd.func19, Tryd.ntmps19
    go_wp2_with fail
    refine (HFW.out w0 p0).mono ?_
    rintro e w' ⟨rfl, rfl⟩
    go_wp2
    go_ret
    exact ⟨ret_bool H.out.symm, hb0⟩
  | true =>
    rw [hf] at H HFW
    clear hf
    by_cases h1 : (S m).size ≤ 20
    · by_cases h2 : (S t).size ≤ 300
      · by_cases h3 : (S b).size ≤ 300
        · have HR := Lib.hid (show fewRB m t l b = true by rw [H.out, decide_eq_true h1, decide_eq_true h2, decide_eq_true h3]; rfl)
          go_enter Tryd.func19, Tryd.ntmps19
          go_wp2_with fail
          refine (HFW.out w0 p0).mono ?_
          rintro e w' ⟨rfl, rfl⟩
          go_wp2
          go_ret
          exact ⟨ret_bool (by rw [HR.out]; exact decide_eq_true (by omega)), hb0⟩
        · have HR := Lib.hid (show fewRB m t l b = false by rw [H.out, decide_eq_true h1, decide_eq_true h2, decide_eq_false h3]; rfl)
          go_enter Tryd.func19, Tryd.ntmps19
          go_wp2_with fail
          refine (HFW.out w0 p0).mono ?_
          rintro e w' ⟨rfl, rfl⟩
          go_wp2
          go_ret
          exact ⟨ret_bool (by rw [HR.out]; exact decide_eq_false (by omega)), hb0⟩
      · have HR := Lib.hid (show fewRB m t l b = false by rw [H.out, decide_eq_true h1, decide_eq_false h2]; rfl)
        go_enter Tryd.func19, Tryd.ntmps19
        go_wp2_with fail
        refine (HFW.out w0 p0).mono ?_
        rintro e w' ⟨rfl, rfl⟩
        go_wp2
        go_ret
        exact ⟨ret_bool HR.out.symm, hb0⟩
    · have HR := Lib.hid (show fewRB m t l b = false by rw [H.out, decide_eq_false h1]; rfl)
      go_enter Tryd.func19, Tryd.ntmps19
      go_wp2_with fail
      refine (HFW.out w0 p0).mono ?_
      rintro e w' ⟨rfl, rfl⟩
      go_wp2
      go_ret
      exact ⟨ret_bool HR.out.symm, hb0⟩
end Go.Proofs.YtbpeohadgplaaaaDoor
