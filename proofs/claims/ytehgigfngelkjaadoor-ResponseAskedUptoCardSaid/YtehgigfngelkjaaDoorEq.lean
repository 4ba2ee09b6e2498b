/- What the document's own Token, Shown, Alike, Line and Digits answer: for any texts of at most 2^30 bytes, any number from 0 on. -/
import Derived.Test.YtehgigfngelkjaaDoorEb
import Derived.Test.YtehgigfngelkjaaDoorCkRead
import Derived.Test.YtehgigfngelkjaaDoorReqBack
namespace Go.Proofs.YtehgigfngelkjaaDoor
set_option maxRecDepth 8000
open Go.RowKit

set_option maxHeartbeats 800000 in
theorem refToken_s (s : ByteArray) (w : World) (hs : s.size ≤ 1073741824) :
    Calls Tryd.prog 37 #[.string s] w fun e w' => e = .returned (.bool (Ck.token s.data.toList)) ∧ w = w' := by
  have HE := Lib.hid (show s.toList.isEmpty = s.data.toList.isEmpty by rw [Lib.toList_data])
  go_enter Tryd.func37, Tryd.ntmps37
  go_wp2
  go_loop [3] (fun i => ∃ k : Nat, k ≤ s.size ∧ i = .int .i64 k ∧ ∀ j (hj : j < s.size), j < k → Ck.tokB s[j] = true) (fun i => s.size - (intOf i).toNat)
  case atStart => exact ⟨0, Nat.zero_le _, rfl, fun j _ hj => absurd hj (by omega)⟩
  case round =>
    obtain ⟨k, hk, rfl, hall⟩ := hrel
    have HALL := Lib.hid hall
    clear hall
    by_cases hlt : k < s.size
    · cases hok : Ck.tokB s[k] with
      | true =>
        have hd := of_decide_eq_true hok
        have hround : ∀ j (hj : j < s.size), j < k + 1 → Ck.tokB s[j] = true := fun j hj hjk => by
          by_cases e : j = k
          · subst e; exact hok
          · exact HALL.out j hj (by omega)
        have HRD := Lib.hid hround
        clear hround hok
        rcases hd with hd | hd | hd | hd
        · have q1 : 97 ≤ s[k].toNat := hd.1
          have q2 : s[k].toNat ≤ 122 := hd.2
          clear hd
          go_wp2
          go_round
          case rel => exact ⟨k + 1, by omega, by go_num, HRD.out⟩
          case measure => simp [intOf]; omega
        · have q1 : 65 ≤ s[k].toNat := hd.1
          have q2 : s[k].toNat ≤ 90 := hd.2
          clear hd
          go_wp2
          go_round
          case rel => exact ⟨k + 1, by omega, by go_num, HRD.out⟩
          case measure => simp [intOf]; omega
        · have q1 : 48 ≤ s[k].toNat := hd.1
          have q2 : s[k].toNat ≤ 57 := hd.2
          clear hd
          go_wp2
          go_round
          case rel => exact ⟨k + 1, by omega, by go_num, HRD.out⟩
          case measure => simp [intOf]; omega
        · have q0 : s[k].toNat = 45 := hd
          have q1 : ((s[k].toNat : Int) != 45) = false := by simp; omega
          have q2 : (s[k].toNat : Int) < 48 := by omega
          clear hd q0
          go_wp2
          go_round
          case rel => exact ⟨k + 1, by omega, by go_num, HRD.out⟩
          case measure => simp [intOf]; omega
      | false =>
        have HF := Lib.hid (show Ck.token s.data.toList = false by unfold Ck.token; rw [all_bad hlt hok]; simp)
        have HC := Lib.hid (of_decide_eq_false hok)
        have q1 : ((s[k].toNat : Int) != 45) = true := bne_iff_ne.2 (fun e => HC.out (by omega))
        clear hok
        go_wp2
        all_goals first
          | (go_ret
             exact ⟨ret_bool HF.out.symm, rfl⟩)
          | (exfalso
             have := HC.out
             omega)
    · have HT := Lib.hid (show Ck.token s.data.toList = !s.toList.isEmpty by
        unfold Ck.token
        rw [all_of_get fun j hj => HALL.out j hj (by omega), Bool.and_true, HE.out])
      go_wp2
      go_ret
      exact ⟨ret_bool HT.out.symm, rfl⟩
theorem refToken_any (l : List UInt8) (w : World) (hs : l.length ≤ 1073741824) :
    Calls Tryd.prog 37 #[.string (S l)] w fun e w' => e = .returned (.bool (Ck.token l)) ∧ w = w' := refToken_s (S l) w hs
set_option maxHeartbeats 400000 in
theorem shown_s (s : ByteArray) (lo : Nat) (w : World) (hs : s.size ≤ 1073741824) :
    Calls Tryd.prog 38 #[.string s, .int .u8 (lo : Int)] w fun e w' => e = .returned (.bool (Req.within lo 126 s.data.toList)) ∧ w = w' := by
  go_enter Tryd.func38, Tryd.ntmps38
  go_wp2
  go_loop [5] (fun i => ∃ k : Nat, k ≤ s.size ∧ i = .int .i64 k ∧ ∀ j (hj : j < s.size), j < k → Req.inB lo 126 s[j] = true) (fun i => s.size - (intOf i).toNat)
  case atStart => exact ⟨0, Nat.zero_le _, rfl, fun j _ hj => absurd hj (by omega)⟩
  case round =>
    obtain ⟨k, hk, rfl, hall⟩ := hrel
    have HALL := Lib.hid hall
    clear hall
    by_cases hlt : k < s.size
    · cases hok : Req.inB lo 126 s[k] with
      | true =>
        have hd := of_decide_eq_true hok
        have HT := Lib.hid hok
        clear hok
        have q1 : lo ≤ s[k].toNat := hd.1
        have q2 : s[k].toNat ≤ 126 := hd.2
        clear hd
        go_wp2
        go_round
        case rel =>
          refine ⟨k + 1, by omega, by go_num, fun j hj hjk => ?_⟩
          by_cases e : j = k
          · subst e; exact HT.out
          · exact HALL.out j hj (by omega)
        case measure => simp [intOf]; omega
      | false =>
        have HF := Lib.hid (show Req.within lo 126 s.data.toList = false from all_bad hlt hok)
        have HD := Lib.hid (of_decide_eq_false hok)
        clear hok
        go_wp2
        all_goals first
          | (go_ret
             exact ⟨ret_bool HF.out.symm, rfl⟩)
          | (exfalso
             have := HD.out
             omega)
    · have HT := Lib.hid (show Req.within lo 126 s.data.toList = true from all_of_get fun j hj => HALL.out j hj (by omega))
      go_wp2
      go_ret
      exact ⟨ret_bool HT.out.symm, rfl⟩
theorem shown_any (l : List UInt8) (lo : Nat) (a : Int) (w : World) (hs : l.length ≤ 1073741824) (ha : a = lo) :
    Calls Tryd.prog 38 #[.string (S l), .int .u8 a] w fun e w' => e = .returned (.bool (Req.within lo 126 l)) ∧ w = w' := by
  subst ha
  exact shown_s (S l) lo w hs
set_option maxHeartbeats 800000 in
theorem refAlike_s (s t : ByteArray) (w : World) (hs : s.size ≤ 1073741824) :
    Calls Tryd.prog 39 #[.string s, .string t] w fun e w' => e = .returned (.bool (Req.alike s.data.toList t.data.toList)) ∧ w = w' := by
  by_cases hlen : s.size = t.size
  · have hne : ((s.size : Int) != (t.size : Int)) = false := by simp; omega
    have HL := Lib.hid hlen
    clear hlen
    go_enter Tryd.func39, Tryd.ntmps39
    go_wp2
    go_loop [5] (fun i => ∃ k : Nat, k ≤ s.size ∧ i = .int .i64 k ∧ ∀ j (hj : j < s.size) (hj' : j < t.size), j < k → Req.low s[j] = Req.low t[j]) (fun i => s.size - (intOf i).toNat)
    case atStart => exact ⟨0, Nat.zero_le _, rfl, fun j _ _ hj => absurd hj (by omega)⟩
    case round =>
      obtain ⟨k, hk, rfl, hall⟩ := hrel
      have HALL := Lib.hid hall
      clear hall
      by_cases hlt : k < s.size
      · have hlt' : k < t.size := by have := HL.out; omega
        have b1 := Pct.u8_lt s[k]
        have b2 := Pct.u8_lt t[k]
        have HNE := Lib.hid (show Req.low s[k] ≠ Req.low t[k] → Req.alike s.data.toList t.data.toList = false from fun he => decide_eq_false fun e => he (by
          have := congrArg (fun l => l[k]?) e
          simp only [List.getElem?_map] at this
          rw [Lib.data_getElem? s k hlt, Lib.data_getElem? t k hlt'] at this
          exact Option.some.inj this))
        have HEQ := Lib.hid (show Req.low s[k] = Req.low t[k] → ∀ j (hj : j < s.size) (hj' : j < t.size), j < k + 1 → Req.low s[j] = Req.low t[j] from fun he j hj hj' hjk => by
          by_cases e : j = k
          · subst e; exact he
          · exact HALL.out j hj hj' (by omega))
        by_cases hx : 65 ≤ s[k].toNat ∧ s[k].toNat ≤ 90
        · by_cases hy : 65 ≤ t[k].toNat ∧ t[k].toNat ≤ 90
          · have X0 : ((Req.low s[k]).toNat : Int) = ((s[k].toNat : Int) + 32) := by rw [low_add s[k] hx.1 hx.2]; rfl
            have Y0 : ((Req.low t[k]).toNat : Int) = ((t[k].toNat : Int) + 32) := by rw [low_add t[k] hy.1 hy.2]; rfl
            by_cases he : Req.low s[k] = Req.low t[k]
            · have hb : (((s[k].toNat : Int) + 32) != ((t[k].toNat : Int) + 32)) = false := by rw [← X0, ← Y0, he]; simp
              have HS := Lib.hid (HEQ.out he)
              clear X0 Y0 he
              obtain ⟨hx1, hx2⟩ := hx
              obtain ⟨hy1, hy2⟩ := hy
              go_wp2
              all_goals first
                | (go_round
                   case rel => exact ⟨k + 1, by omega, by go_num, HS.out⟩
                   case measure => simp [intOf]; omega)
                | (exfalso; omega)
            · have hb : (((s[k].toNat : Int) + 32) != ((t[k].toNat : Int) + 32)) = true := by rw [← X0, ← Y0]; exact bne_iff_ne.2 fun e => he (Pct.u8_eq (by omega))
              have HF := Lib.hid (HNE.out he)
              clear X0 Y0 he
              obtain ⟨hx1, hx2⟩ := hx
              obtain ⟨hy1, hy2⟩ := hy
              go_wp2
              all_goals first
                | (go_ret
                   exact ⟨ret_bool HF.out.symm, rfl⟩)
                | (exfalso; omega)
          · have X0 : ((Req.low s[k]).toNat : Int) = ((s[k].toNat : Int) + 32) := by rw [low_add s[k] hx.1 hx.2]; rfl
            have Y0 : ((Req.low t[k]).toNat : Int) = (t[k].toNat : Int) := by rw [low_same t[k] hy]
            by_cases he : Req.low s[k] = Req.low t[k]
            · have hb : (((s[k].toNat : Int) + 32) != (t[k].toNat : Int)) = false := by rw [← X0, ← Y0, he]; simp
              have HS := Lib.hid (HEQ.out he)
              clear X0 Y0 he
              obtain ⟨hx1, hx2⟩ := hx
              go_wp2
              all_goals first
                | (go_round
                   case rel => exact ⟨k + 1, by omega, by go_num, HS.out⟩
                   case measure => simp [intOf]; omega)
                | (exfalso; omega)
            · have hb : (((s[k].toNat : Int) + 32) != (t[k].toNat : Int)) = true := by rw [← X0, ← Y0]; exact bne_iff_ne.2 fun e => he (Pct.u8_eq (by omega))
              have HF := Lib.hid (HNE.out he)
              clear X0 Y0 he
              obtain ⟨hx1, hx2⟩ := hx
              go_wp2
              all_goals first
                | (go_ret
                   exact ⟨ret_bool HF.out.symm, rfl⟩)
                | (exfalso; omega)
        · by_cases hy : 65 ≤ t[k].toNat ∧ t[k].toNat ≤ 90
          · have X0 : ((Req.low s[k]).toNat : Int) = (s[k].toNat : Int) := by rw [low_same s[k] hx]
            have Y0 : ((Req.low t[k]).toNat : Int) = ((t[k].toNat : Int) + 32) := by rw [low_add t[k] hy.1 hy.2]; rfl
            by_cases he : Req.low s[k] = Req.low t[k]
            · have hb : ((s[k].toNat : Int) != ((t[k].toNat : Int) + 32)) = false := by rw [← X0, ← Y0, he]; simp
              have HS := Lib.hid (HEQ.out he)
              clear X0 Y0 he
              obtain ⟨hy1, hy2⟩ := hy
              go_wp2
              all_goals first
                | (go_round
                   case rel => exact ⟨k + 1, by omega, by go_num, HS.out⟩
                   case measure => simp [intOf]; omega)
                | (exfalso; omega)
            · have hb : ((s[k].toNat : Int) != ((t[k].toNat : Int) + 32)) = true := by rw [← X0, ← Y0]; exact bne_iff_ne.2 fun e => he (Pct.u8_eq (by omega))
              have HF := Lib.hid (HNE.out he)
              clear X0 Y0 he
              obtain ⟨hy1, hy2⟩ := hy
              go_wp2
              all_goals first
                | (go_ret
                   exact ⟨ret_bool HF.out.symm, rfl⟩)
                | (exfalso; omega)
          · have X0 : ((Req.low s[k]).toNat : Int) = (s[k].toNat : Int) := by rw [low_same s[k] hx]
            have Y0 : ((Req.low t[k]).toNat : Int) = (t[k].toNat : Int) := by rw [low_same t[k] hy]
            by_cases he : Req.low s[k] = Req.low t[k]
            · have hb : ((s[k].toNat : Int) != (t[k].toNat : Int)) = false := by rw [← X0, ← Y0, he]; simp
              have HS := Lib.hid (HEQ.out he)
              clear X0 Y0 he
              go_wp2
              all_goals first
                | (go_round
                   case rel => exact ⟨k + 1, by omega, by go_num, HS.out⟩
                   case measure => simp [intOf]; omega)
                | (exfalso; omega)
            · have hb : ((s[k].toNat : Int) != (t[k].toNat : Int)) = true := by rw [← X0, ← Y0]; exact bne_iff_ne.2 fun e => he (Pct.u8_eq (by omega))
              have HF := Lib.hid (HNE.out he)
              clear X0 Y0 he
              go_wp2
              all_goals first
                | (go_ret
                   exact ⟨ret_bool HF.out.symm, rfl⟩)
                | (exfalso; omega)
      · have HT := Lib.hid (show Req.alike s.data.toList t.data.toList = true from decide_eq_true (by
          have hl := HL.out
          apply List.ext_getElem?
          intro j
          rw [List.getElem?_map, List.getElem?_map]
          by_cases hj : j < s.size
          · rw [Lib.data_getElem? s j hj, Lib.data_getElem? t j (by omega)]
            exact congrArg some (HALL.out j hj (by omega) (by omega))
          · rw [List.getElem?_eq_none (by simp; omega), List.getElem?_eq_none (by simp; omega)]))
        go_wp2
        go_ret
        exact ⟨ret_bool HT.out.symm, rfl⟩
  · have hne : ((s.size : Int) != (t.size : Int)) = true := by simp; omega
    have HF := Lib.hid (alike_len (a := s.data.toList) (b := t.data.toList) (by simpa using hlen))
    clear hlen
    go_enter Tryd.func39, Tryd.ntmps39
    go_wp2
    go_ret
    exact ⟨ret_bool HF.out.symm, rfl⟩
theorem refAlike_to (a b : List UInt8) (o : Bool) (w : World) (hs : a.length ≤ 1073741824) (h : Req.alike a b = o) :
    Calls Tryd.prog 39 #[.string (S a), .string (S b)] w fun e w' => e = .returned (.bool o) ∧ w = w' := by
  rw [← h]
  exact refAlike_s (S a) (S b) w hs
def lineRes (o : Option (List UInt8 × List UInt8)) (at' : Nat) : Ending :=
  match o with
  | some p => .returned (.tuple #[.string (S p.1), .int .i64 ((at' : Int) + (p.1.length : Int) + 2)])
  | none => .returned (.tuple #[.string ⟨#[]⟩, .int .i64 (-1)])
def LInv (l : List UInt8) (f k : Nat) : Prop := f ≤ k ∧ Req.line (l.drop f) = (Req.line (l.drop k)).map fun p => ((l.drop f).take (k - f) ++ p.1, p.2)
theorem LInv.start (l : List UInt8) (f : Nat) : LInv l f f := by
  refine ⟨Nat.le_refl _, ?_⟩
  cases h : Req.line (l.drop f) with
  | none => rfl
  | some p => simp
section
variable {l : List UInt8} {f k : Nat}
theorem LInv.hit (h : LInv l f k) (hk : k + 1 < l.length) (h1 : l[k] = 13) (h2 : l[k + 1] = 10) : Req.line (l.drop f) = some ((l.drop f).take (k - f), l.drop (k + 2)) := by
  have e : l.drop k = 13 :: 10 :: l.drop (k + 2) := by
    rw [List.drop_eq_getElem_cons (by omega), h1, List.drop_eq_getElem_cons hk, h2]
  rw [h.2, e, Req.line_hit]
  simp
theorem LInv.step (h : LInv l f k) (hk : k + 1 < l.length) (hn : ¬ (l[k] = 13 ∧ l[k + 1] = 10)) : LInv l f (k + 1) := by
  obtain ⟨h1, h2⟩ := h
  refine ⟨by omega, ?_⟩
  have e : l.drop k = l[k] :: l.drop (k + 1) := List.drop_eq_getElem_cons (by omega)
  have e2 : l.drop (k + 1) = l[k + 1] :: l.drop (k + 2) := List.drop_eq_getElem_cons hk
  have hp : Req.crlf.isPrefixOf (l[k] :: l.drop (k + 1)) = false := by
    rw [e2, Req.pre2]
    cases ha : l[k] == 13 with
    | false => rfl
    | true =>
      cases hb : l[k + 1] == 10 with
      | false => rfl
      | true => exact absurd ⟨beq_iff_eq.1 ha, beq_iff_eq.1 hb⟩ hn
  have ht : (l.drop f).take (k + 1 - f) = (l.drop f).take (k - f) ++ [l[k]] := by
    rw [show k + 1 - f = (k - f) + 1 by omega, List.take_succ_eq_append_getElem (by rw [List.length_drop]; omega), List.getElem_drop]
    congr 3
    omega
  rw [h2, e, Req.line_other _ _ hp, ht]
  cases Req.line (l.drop (k + 1)) with
  | none => rfl
  | some p => simp
theorem LInv.ends (h : LInv l f k) (hk : ¬ k + 1 < l.length) : Req.line (l.drop f) = none := by
  have : Req.line (l.drop k) = none := by
    rcases Nat.lt_or_ge k l.length with hlt | hge
    · have e : l.drop k = [l[k]] := by
        rw [List.drop_eq_getElem_cons hlt, List.drop_eq_nil_of_le (by omega)]
      rw [e, Req.line_other _ _ (Req.pre1 _), Req.line_nil]
      rfl
    · rw [List.drop_eq_nil_of_le hge, Req.line_nil]
  rw [h.2, this]
  rfl
end
theorem byte_list (s : ByteArray) (k : Nat) (h : k < s.size) : s.data.toList[k]'(by simpa using h) = s[k] := rfl
set_option maxHeartbeats 800000 in
theorem refLine_any (s : ByteArray) (f : Nat) (w : World) (hf : f ≤ s.size) (hs : s.size ≤ 1073741824) :
    Calls Tryd.prog 26 #[.string s, .int .i64 (f : Int)] w fun e w' => e = lineRes (Req.line (s.data.toList.drop f)) f ∧ w = w' := by
  have hz : s.data.toList.length = s.size := by simp
  have HZ := Lib.hid hz
  clear hz
  go_enter Tryd.func26, Tryd.ntmps26
  go_wp2
  go_loop [6] (fun i => ∃ k : Nat, k ≤ s.size ∧ i = .int .i64 k ∧ LInv s.data.toList f k) (fun i => s.size - (intOf i).toNat)
  case atStart => exact ⟨f, hf, rfl, LInv.start _ _⟩
  case round =>
    obtain ⟨k, hk, rfl, hinv⟩ := hrel
    have hfk := hinv.1
    have HI := Lib.hid hinv
    clear hinv
    by_cases hlt : k + 1 < s.size
    · have hlt0 : k < s.size := by omega
      have hIk : (k : Int) + 1 < (s.size : Int) := by omega
      have hnat : ((k : Int) + 1).toNat = k + 1 := by omega
      have hk2 : k + 1 < s.data.toList.length := by rw [HZ.out]; exact hlt
      by_cases h13 : s[k] = 13
      · have e1 : ((s[k].toNat : Int) == 13) = true := by rw [h13]; rfl
        by_cases h10 : s[k + 1] = 10
        · have e2 : ((s[k + 1].toNat : Int) == 10) = true := by rw [h10]; rfl
          have HR := Lib.hid (HI.out.hit hk2 h13 h10)
          have hx := extract_piece s f k
          have hln : ((s.data.toList.drop f).take (k - f)).length = k - f := by rw [List.length_take, List.length_drop, HZ.out]; omega
          have HL := Lib.hid hln
          clear h13 h10 hln
          go_wp2
          go_ret2
          refine ⟨?_, rfl⟩
          rw [HR.out]
          unfold lineRes
          simp only [HL.out]
          have e3 : (f : Int) + ((k - f : Nat) : Int) + 2 = (k : Int) + 2 := by omega
          rw [e3]
          rfl
        · have e2 := u8_ne (n := 10) 10 rfl h10
          have HS := Lib.hid (HI.out.step hk2 (fun h => h10 h.2))
          clear h13 h10
          go_wp2
          go_round
          case rel => exact ⟨k + 1, by omega, by go_num, HS.out⟩
          case measure => simp [intOf]; omega
      · have e1 := u8_ne (n := 13) 13 rfl h13
        have HS := Lib.hid (HI.out.step hk2 (fun h => h13 h.1))
        clear h13
        go_wp2
        go_round
        case rel => exact ⟨k + 1, by omega, by go_num, HS.out⟩
        case measure => simp [intOf]; omega
    · have hIk : ¬ (k : Int) + 1 < (s.size : Int) := by omega
      have HR := Lib.hid (HI.out.ends (by rw [HZ.out]; exact hlt))
      go_wp2
      go_ret2
      exact ⟨by rw [HR.out]; rfl, rfl⟩

/-! ### Trimming -/
theorem ret_string {a b : List UInt8} (h : a = b) : Ending.returned (.string (S a)) = .returned (.string (S b)) := by rw [h]
/-- 'string([]byte{u})'. -/
theorem run_one (w : World) (u : UInt8) : (convert 55 9 (.slice (some ⟨w.heap.size, 0, none⟩) 1 1)).run Tryd.prog (w.alloc (.cells #[B u] 5)) = .ok (.string (S [u])) (w.alloc (.cells #[B u] 5)) :=
  run_convert_bytes_back (w.alloc (.cells #[B u] 5)) 55 9 5 ⟨w.heap.size, 0, none⟩ 1 [u] Tryd.underlying55 Tryd.underlying5 Tryd.underlying9
    (fun j hj => by
      have h0 : j = 0 := by simp at hj; exact hj
      subst h0
      exact cell_of_row _ w.heap.size 0 _ _ _ (heap_alloc_new w (.cells #[B u] 5)))
theorem run_add_S' (w : World) (a b : List UInt8) (h : a.length + b.length ≤ 9223372036854775807) : (Op.stringOp .add (S a) (S b)).run Tryd.prog w = .ok (.string (S (a ++ b))) w := by
  have ha : (S a).size = a.length := rfl
  have hb : (S b).size = b.length := rfl
  rw [run_string_add_sum w _ _ (by omega), S_append]
set_option maxHeartbeats 400000 in
theorem refDigits_any (n0 : Nat) (w : World) (hn : n0 ≤ 9223372036854775807) :
    Calls Tryd.prog 29 #[.int .i64 n0] w (Told w (.returned (.string (S (Lib.decDigits n0))))) := by
  go_enter Tryd.func29, Tryd.ntmps29
  go_wp2
  go_loopw [0, 3] (fun i v wr => ∃ (n : Nat) (acc : List UInt8), i = .int .i64 n ∧ v = .string (S acc) ∧ 9 * acc.length + n ≤ n0 ∧ Lib.decDigits n0 = Lib.decDigits n ++ acc ∧ Below w.heap.size w wr) (fun i _ _ => (intOf i).toNat)
  case atStart => exact ⟨n0, [], rfl, rfl, by simp, by simp, Below.refl _ _⟩
  case round =>
    obtain ⟨n, acc, rfl, rfl, hal, hd, hb⟩ := hrel
    have hbs := hb.size
    have HD := Lib.hid hd
    clear hd
    by_cases hlt : n ≤ 9
    · have HN := Lib.hid (Ck.dec_few (show n < 10 by omega))
      have a1 := fun w' : World => run_add_S' w' [UInt8.ofNat (48 + n)] acc (by simp; omega)
      have a2 := run_one wr (UInt8.ofNat (48 + n))
      unfold B at a2
      rw [show (((UInt8.ofNat (48 + n)).toNat : Nat) : Int) = 48 + (n : Int) by rw [UInt8.toNat_ofNat']; omega] at a2
      have w1 : IntKind.u8.wrap (48 + (n : Int)) = 48 + (n : Int) := IntWalk.u8_in _ (by omega)
      obtain ⟨c, hc⟩ : ∃ c, c = UInt8.ofNat (48 + n) := ⟨_, rfl⟩
      rw [← hc] at a1 a2 HN
      clear hc
      go_wp2
      go_ret
      refine ⟨ret_string ?_, hb.alloc hbs _⟩
      rw [HD.out, HN.out]
      rfl
    · have HN := Lib.hid (Ck.dec_more (show ¬ n < 10 by omega))
      have a1 := fun w' : World => run_add_S' w' [UInt8.ofNat (48 + n % 10)] acc (by simp; omega)
      have a2 := run_one wr (UInt8.ofNat (48 + n % 10))
      have e1 : (n : Int).tmod 10 = ((n % 10 : Nat) : Int) := by rw [Int.tmod_eq_emod_of_nonneg (by omega)]; omega
      have e1' : (n : Int) % 10 = ((n % 10 : Nat) : Int) := by omega
      have e2 : (n : Int).tdiv 10 = ((n / 10 : Nat) : Int) := by rw [Int.tdiv_eq_ediv_of_nonneg (by omega)]; omega
      have e2' : (n : Int) / 10 = ((n / 10 : Nat) : Int) := by omega
      unfold B at a2
      rw [show (((UInt8.ofNat (48 + n % 10)).toNat : Nat) : Int) = 48 + ((n % 10 : Nat) : Int) by rw [UInt8.toNat_ofNat']; omega] at a2
      obtain ⟨x, hx⟩ : ∃ x, x = n % 10 := ⟨_, rfl⟩
      rw [← hx] at a1 a2 e1 e1' HN
      have hx9 : x ≤ 9 := by omega
      clear hx
      obtain ⟨y, hy⟩ : ∃ y, y = n / 10 := ⟨_, rfl⟩
      rw [← hy] at e2 e2' HN
      have hyn : 9 * 1 + y ≤ n := by omega
      clear hy
      have w1 : IntKind.u8.wrap (48 + (x : Int)) = 48 + (x : Int) := IntWalk.u8_in _ (by omega)
      obtain ⟨c, hc⟩ : ∃ c, c = UInt8.ofNat (48 + x) := ⟨_, rfl⟩
      rw [← hc] at a1 a2 HN
      clear hc
      go_wp2
      go_roundw
      case rel => exact ⟨y, [c] ++ acc, by go_num, rfl, by simp; omega, by rw [HD.out, HN.out]; simp, hb.alloc hbs _⟩
      case measure => simp [intOf]; omega
theorem refDigits_age (n : Int) (w : World) (h0 : 0 ≤ n) (h1 : n ≤ 9223372036854775807) :
    Calls Tryd.prog 29 #[.int .i64 n] w (Told w (.returned (.string (S (Lib.decDigits n.toNat))))) := by
  obtain ⟨k, rfl⟩ : ∃ k : Nat, n = (k : Int) := ⟨n.toNat, by omega⟩
  exact refDigits_any k w (by omega)
end Go.Proofs.YtehgigfngelkjaaDoor
