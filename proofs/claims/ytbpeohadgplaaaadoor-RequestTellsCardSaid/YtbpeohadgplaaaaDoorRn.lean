/- What the document's own Line, Trim, Alike, Header and length of requests answer, for any texts of at most 2^30 bytes and at most 1000 headers. -/
import Derived.Test.YtbpeohadgplaaaaDoorRm
import Derived.Test.YtbpeohadgplaaaaDoorRefD
import Derived.Test.YtbpeohadgplaaaaDoorReqBack
namespace Go.Proofs.YtbpeohadgplaaaaDoor
set_option maxRecDepth 8000
open Go.RowKit

/-! ### A line -/
def lineRes (o : Option (List UInt8 × List UInt8)) (at' : Nat) : Ending :=
  match o with
  | some p => .returned (.tuple #[.string (S p.1), .int .i64 ((at' : Int) + (p.1.length : Int) + 2)])
  | none => .returned (.tuple #[.string ⟨#[]⟩, .int .i64 (-1)])
def LInv (l : List UInt8) (f k : Nat) : Prop := f ≤ k ∧ Req.line (l.drop f) = (Req.line (l.drop k)).map fun p => ((l.drop f).take (k - f) ++ p.1, p.2)
theorem LInv.start (l : List UInt8) (f : Nat) : LInv l f f := by
  refine ⟨Nat.le_refl _, ?_⟩
  cases h : Req.line (l.drop f) with
  | none => rfl
  | some p => simp
section
variable {l : List UInt8} {f k : Nat}
theorem LInv.hit (h : LInv l f k) (hk : k + 1 < l.length) (h1 : l[k] = 13) (h2 : l[k + 1] = 10) : Req.line (l.drop f) = some ((l.drop f).take (k - f), l.drop (k + 2)) := by
  have e : l.drop k = 13 :: 10 :: l.drop (k + 2) := by
    rw [List.drop_eq_getElem_cons (by omega), h1, List.drop_eq_getElem_cons hk, h2]
  rw [h.2, e, Req.line_hit]
  simp
theorem LInv.step (h : LInv l f k) (hk : k + 1 < l.length) (hn : ¬ (l[k] = 13 ∧ l[k + 1] = 10)) : LInv l f (k + 1) := by
  obtain ⟨h1, h2⟩ := h
  refine ⟨by omega, ?_⟩
  have e : l.drop k = l[k] :: l.drop (k + 1) := List.drop_eq_getElem_cons (by omega)
  have e2 : l.drop (k + 1) = l[k + 1] :: l.drop (k + 2) := List.drop_eq_getElem_cons hk
  have hp : Req.crlf.isPrefixOf (l[k] :: l.drop (k + 1)) = false := by
    rw [e2, Req.pre2]
    cases ha : l[k] == 13 with
    | false => rfl
    | true =>
      cases hb : l[k + 1] == 10 with
      | false => rfl
      | true => exact absurd ⟨beq_iff_eq.1 ha, beq_iff_eq.1 hb⟩ hn
  have ht : (l.drop f).take (k + 1 - f) = (l.drop f).take (k - f) ++ [l[k]] := by
    rw [show k + 1 - f = (k - f) + 1 by omega, List.take_succ_eq_append_getElem (by rw [List.length_drop]; omega), List.getElem_drop]
    congr 3
    omega
  rw [h2, e, Req.line_other _ _ hp, ht]
  cases Req.line (l.drop (k + 1)) with
  | none => rfl
  | some p => simp
theorem LInv.ends (h : LInv l f k) (hk : ¬ k + 1 < l.length) : Req.line (l.drop f) = none := by
  have : Req.line (l.drop k) = none := by
    rcases Nat.lt_or_ge k l.length with hlt | hge
    · have e : l.drop k = [l[k]] := by
        rw [List.drop_eq_getElem_cons hlt, List.drop_eq_nil_of_le (by omega)]
      rw [e, Req.line_other _ _ (Req.pre1 _), Req.line_nil]
      rfl
    · rw [List.drop_eq_nil_of_le hge, Req.line_nil]
  rw [h.2, this]
  rfl
end
theorem byte_list (s : ByteArray) (k : Nat) (h : k < s.size) : s.data.toList[k]'(by simpa using h) = s[k] := rfl

set_option maxHeartbeats 800000 in
theorem refLine_any (s : ByteArray) (f : Nat) (w : World) (hf : f ≤ s.size) (hs : s.size ≤ 1073741824) :
    Calls Tryd.prog 55 #[.string s, .int .i64 (f : Int)] w fun e w' => e = lineRes (Req.line (s.data.toList.drop f)) f ∧ w = w' := by
  have hz : s.data.toList.length = s.size := by simp
  have HZ := Lib.hid hz
  clear hz
  go_enter Tryd.func55, Tryd.ntmps55
  go_wp2
  go_loop [6] (fun i => ∃ k : Nat, k ≤ s.size ∧ i = .int .i64 k ∧ LInv s.data.toList f k) (fun i => s.size - (intOf i).toNat)
  case atStart => exact ⟨f, hf, rfl, LInv.start _ _⟩
  case round =>
    obtain ⟨k, hk, rfl, hinv⟩ := hrel
    have hfk := hinv.1
    have HI := Lib.hid hinv
    clear hinv
    by_cases hlt : k + 1 < s.size
    · have hlt0 : k < s.size := by omega
      have hIk : (k : Int) + 1 < (s.size : Int) := by omega
      have hnat : ((k : Int) + 1).toNat = k + 1 := by omega
      have hk2 : k + 1 < s.data.toList.length := by rw [HZ.out]; exact hlt
      by_cases h13 : s[k] = 13
      · have e1 : ((s[k].toNat : Int) == 13) = true := by rw [h13]; rfl
        by_cases h10 : s[k + 1] = 10
        · have e2 : ((s[k + 1].toNat : Int) == 10) = true := by rw [h10]; rfl
          have HR := Lib.hid (HI.out.hit hk2 h13 h10)
          have hx := extract_piece s f k
          have hln : ((s.data.toList.drop f).take (k - f)).length = k - f := by rw [List.length_take, List.length_drop, HZ.out]; omega
          have HL := Lib.hid hln
          clear h13 h10 hln
          go_wp2
          go_ret2
          refine ⟨?_, rfl⟩
          rw [HR.out]
          unfold lineRes
          simp only [HL.out]
          have e3 : (f : Int) + ((k - f : Nat) : Int) + 2 = (k : Int) + 2 := by omega
          rw [e3]
          rfl
        · have e2 := u8_ne (n := 10) 10 rfl h10
          have HS := Lib.hid (HI.out.step hk2 (fun h => h10 h.2))
          clear h13 h10
          go_wp2
          go_round
          case rel => exact ⟨k + 1, by omega, by go_num, HS.out⟩
          case measure => simp [intOf]; omega
      · have e1 := u8_ne (n := 13) 13 rfl h13
        have HS := Lib.hid (HI.out.step hk2 (fun h => h13 h.1))
        clear h13
        go_wp2
        go_round
        case rel => exact ⟨k + 1, by omega, by go_num, HS.out⟩
        case measure => simp [intOf]; omega
    · have hIk : ¬ (k : Int) + 1 < (s.size : Int) := by omega
      have HR := Lib.hid (HI.out.ends (by rw [HZ.out]; exact hlt))
      go_wp2
      go_ret2
      exact ⟨by rw [HR.out]; rfl, rfl⟩

/-! ### Trimming -/
theorem dw_append (p : UInt8 → Bool) (v : List UInt8) : ∀ u : List UInt8, (∃ c ∈ u, p c = false) → (u ++ v).dropWhile p = u.dropWhile p ++ v
  | [], h => by obtain ⟨c, hc, _⟩ := h; cases hc
  | x :: u, h => by
    cases hx : p x with
    | false => rw [List.cons_append, List.dropWhile_cons_of_neg (by rw [hx]; simp), List.dropWhile_cons_of_neg (by rw [hx]; simp)]; rfl
    | true =>
      rw [List.cons_append, List.dropWhile_cons_of_pos hx, List.dropWhile_cons_of_pos hx]
      refine dw_append p v u ?_
      obtain ⟨c, hc, hp⟩ := h
      rcases List.mem_cons.1 hc with rfl | hc
      · rw [hx] at hp; cases hp
      · exact ⟨c, hc, hp⟩
theorem dw_all (p : UInt8 → Bool) (v : List UInt8) : ∀ u : List UInt8, (∀ c ∈ u, p c = true) → (u ++ v).dropWhile p = v.dropWhile p
  | [], _ => rfl
  | x :: u, h => by
    rw [List.cons_append, List.dropWhile_cons_of_pos (h x (by simp))]
    exact dw_all p v u (fun c hc => h c (by simp [hc]))
theorem trim_swap (p : UInt8 → Bool) (l : List UInt8) : ((l.reverse.dropWhile p).reverse).dropWhile p = ((l.dropWhile p).reverse.dropWhile p).reverse := by
  have hs : l = l.takeWhile p ++ l.dropWhile p := (List.takeWhile_append_dropWhile).symm
  have ha : ∀ c ∈ l.takeWhile p, p c = true := fun c hc => by
    have := List.all_takeWhile (p := p) (l := l)
    exact List.all_eq_true.1 this c hc
  cases hd : l.dropWhile p with
  | nil =>
    rw [hd, List.append_nil] at hs
    have h1 : l.reverse.dropWhile p = [] := by
      have := dw_all p [] l.reverse (fun c hc => by rw [hs] at hc; exact ha c (List.mem_reverse.1 hc))
      rw [List.append_nil] at this
      rw [this]
      rfl
    rw [h1]
    rfl
  | cons c x =>
    have hc : p c = false := by
      have h2 : (l.dropWhile p).dropWhile p = l.dropWhile p := by
        conv => rhs; rw [hs]
        rw [dw_all p _ _ ha]
      exact Req.dw_head p h2 c (by rw [hd]; rfl)
    rw [hd] at hs
    have e1 : l.reverse.dropWhile p = (c :: x).reverse.dropWhile p ++ (l.takeWhile p).reverse := by
      conv => lhs; rw [hs]
      rw [List.reverse_append]
      exact dw_append p _ _ ⟨c, by simp, hc⟩
    have e2 : (c :: x).reverse.dropWhile p = x.reverse.dropWhile p ++ [c] ∨ (c :: x).reverse.dropWhile p = [c] := by
      rw [List.reverse_cons]
      by_cases hx : ∃ d ∈ x.reverse, p d = false
      · exact .inl (dw_append p [c] _ hx)
      · refine .inr ?_
        rw [dw_all p [c] x.reverse (fun d hd => by
          cases h : p d with
          | true => rfl
          | false => exact absurd ⟨d, hd, h⟩ hx)]
        rw [List.dropWhile_cons_of_neg (by rw [hc]; simp)]
    rw [e1, List.reverse_append, List.reverse_reverse, dw_all p _ _ ha]
    refine Req.dw_same p _ fun d hd => ?_
    rcases e2 with e2 | e2
    · rw [e2, List.reverse_append] at hd
      simp at hd
      rw [← hd]; exact hc
    · rw [e2] at hd
      simp at hd
      rw [← hd]; exact hc

def spB (c : UInt8) : Bool := [32, 9].contains c
theorem sp_is (c : UInt8) : spB c = (c == 32 || c == 9) := by
  have := Req.byte_all (P := fun c => spB c == (c == 32 || c == 9)) (by decide +kernel) c
  simpa using this
theorem trim_is (l : List UInt8) : Req.trim l = ((l.dropWhile spB).reverse.dropWhile spB).reverse := trim_swap spB l
theorem last_byte {l : List UInt8} {c : UInt8} (h : l.reverse.head? = some c) : l = l.take (l.length - 1) ++ [c] := by
  cases hr : l.reverse with
  | nil => rw [hr] at h; cases h
  | cons d r =>
    rw [hr] at h
    cases h
    have e : l = r.reverse ++ [c] := by rw [← List.reverse_reverse l, hr]; simp
    rw [e]
    simp

set_option maxHeartbeats 800000 in
theorem refTrim_any (l : List UInt8) (w : World) (hs : l.length ≤ 1073741824) :
    Calls Tryd.prog 57 #[.string (S l)] w fun e w' => e = .returned (.string (S (Req.trim l))) ∧ w = w' := by
  have HT := Lib.hid (trim_is l)
  go_enter Tryd.func57, Tryd.ntmps57
  go_wp2
  go_loop [0] (fun v => ∃ x : List UInt8, v = .string (S x) ∧ x.length ≤ 1073741824 ∧ x.dropWhile spB = l.dropWhile spB) (fun v => strLen v)
  case atStart => exact ⟨l, rfl, hs, rfl⟩
  case round =>
    obtain ⟨x, rfl, hxl, hx⟩ := hrel
    have HX := Lib.hid hx
    clear hx
    by_cases hgo : ∃ c r, x = c :: r ∧ spB c = true
    · obtain ⟨c, r, rfl, hc⟩ := hgo
      have z0 : 0 < (S (c :: r)).size := Nat.zero_lt_succ _
      have zb : (S (c :: r))[0]'z0 = c := rfl
      have HN := Lib.hid (show r.dropWhile spB = l.dropWhile spB by rw [← HX.out, List.dropWhile_cons_of_pos hc])
      have hext : (S (c :: r)).extract 1 (S (c :: r)).size = S r := by rw [extract_rest]; rfl
      have h1 : 1 ≤ (S (c :: r)).size := z0
      have HM := Lib.hid (show strLen (.string (S r)) < strLen (.string (S (c :: r))) from Nat.lt_succ_self _)
      rw [sp_is] at hc
      obtain ⟨y, hy⟩ : ∃ y, y = c :: r := ⟨_, rfl⟩
      have hrl : r.length ≤ 1073741824 := by simp at hxl; omega
      rw [← hy] at hext h1 HM ⊢
      have z0' : 0 < (S y).size := by rw [hy]; exact z0
      by_cases h32 : c = 32
      · have e1 : (((S y)[0]'z0').toNat : Int) = 32 := by subst hy; rw [zb, h32]; rfl
        have e1b : ((((S y)[0]'z0').toNat : Int) == 32) = true := by rw [e1]; rfl
        clear e1 hy zb z0 hc h32 HX hxl
        go_wp2
        go_round
        case rel => exact ⟨r, rfl, hrl, HN.out⟩
        case measure => exact HM.out
      · have h9 : c = 9 := by
          simp [h32] at hc
          exact hc
        have e1 : (((S y)[0]'z0').toNat : Int) = 9 := by subst hy; rw [zb, h9]; rfl
        have e1b : ((((S y)[0]'z0').toNat : Int) == 32) = false := by rw [e1]; rfl
        have e2b : ((((S y)[0]'z0').toNat : Int) == 9) = true := by rw [e1]; rfl
        clear e1 hy zb z0 hc h32 h9 HX hxl
        go_wp2
        go_round
        case rel => exact ⟨r, rfl, hrl, HN.out⟩
        case measure => exact HM.out
    · have HX2 := Lib.hid (show x = l.dropWhile spB by
        rw [← HX.out]
        exact (Req.dw_same spB x fun c hc => by
          cases x with
          | nil => cases hc
          | cons d r =>
            cases hc
            cases h : spB c with
            | false => rfl
            | true => exact absurd ⟨c, r, rfl, h⟩ hgo).symm)
      have hstop : (S x).size = 0 ∨ ∃ h0 : 0 < (S x).size, ((((S x)[0]'h0).toNat : Int) == 32) = false ∧ ((((S x)[0]'h0).toNat : Int) == 9) = false := by
        cases x with
        | nil => exact .inl rfl
        | cons c r =>
          refine .inr ⟨Nat.zero_lt_succ _, ?_⟩
          have hc : spB c = false := by
            cases h : spB c with
            | false => rfl
            | true => exact absurd ⟨c, r, rfl, h⟩ hgo
          rw [sp_is] at hc
          simp at hc
          exact ⟨u8_ne (n := 32) 32 rfl hc.1, u8_ne (n := 9) 9 rfl hc.2⟩
      clear hgo HX
      rcases hstop with h0 | ⟨h0, q1, q2⟩
      · have hx0 : x = [] := List.length_eq_zero_iff.1 h0
        subst hx0
        have HR := Lib.hid (show Req.trim l = [] by rw [HT.out, ← HX2.out]; rfl)
        have h00 : ¬ 0 < (S ([] : List UInt8)).size := by rw [h0]; omega
        go_wp2
        go_loop [0] (fun v => v = .string (S [])) (fun v => strLen v)
        case atStart => exact rfl
        case round =>
          obtain rfl := hrel
          go_wp2
          go_ret
          exact ⟨by rw [HR.out]; rfl, rfl⟩
      · go_wp2
        go_loop [0] (fun v => ∃ y : List UInt8, v = .string (S y) ∧ y.length ≤ 1073741824 ∧ y.reverse.dropWhile spB = x.reverse.dropWhile spB) (fun v => strLen v)
        case atStart => exact ⟨x, rfl, hxl, rfl⟩
        case round =>
          obtain ⟨y, rfl, hyl, hy⟩ := hrel
          have HY := Lib.hid hy
          clear hy q1 q2
          by_cases hgo : ∃ c, y.reverse.head? = some c ∧ spB c = true
          · obtain ⟨c, hc, hsp⟩ := hgo
            have hyc := last_byte hc
            obtain ⟨z, hz⟩ : ∃ z, z = y.take (y.length - 1) := ⟨_, rfl⟩
            rw [← hz] at hyc
            have hlen : y.length = z.length + 1 := by rw [hyc]; simp
            have HN := Lib.hid (show z.reverse.dropWhile spB = x.reverse.dropWhile spB by
              rw [← HY.out, hyc, List.reverse_append]
              show _ = (c :: z.reverse).dropWhile spB
              rw [List.dropWhile_cons_of_pos hsp])
            have hsz : (S y).size = z.length + 1 := hlen
            have z0 : 0 < (S y).size := by omega
            have zl : z.length < (S y).size := by omega
            have zb : (S y)[z.length]'zl = c := by
              have h2 : (S y).data.toList[z.length]? = some c := by
                show y[z.length]? = some c
                rw [hyc]
                simp
              rw [Lib.data_getElem? (S y) _ zl] at h2
              exact Option.some.inj h2
            have hext : (S y).extract 0 z.length = S z := by
              rw [extract_piece]
              show S (y.take z.length) = S z
              rw [hz, show (y.take (y.length - 1)).length = y.length - 1 by rw [List.length_take]; omega]
            have HM := Lib.hid (show strLen (.string (S z)) < strLen (.string (S y)) from (show z.length < y.length by omega))
            have hzl : z.length ≤ 1073741824 := by omega
            rw [sp_is] at hsp
            by_cases h32 : c = 32
            · have e1 : ((((S y)[z.length]'zl).toNat : Int) == 32) = true := by rw [zb, h32]; rfl
              clear hyc hz hc hsp zb hlen h32
              go_wp2
              go_round
              case rel => exact ⟨z, rfl, hzl, HN.out⟩
              case measure => exact HM.out
            · have h9 : c = 9 := by
                simp [h32] at hsp
                exact hsp
              have e1 : ((((S y)[z.length]'zl).toNat : Int) == 32) = false := by rw [zb, h9]; rfl
              have e2 : ((((S y)[z.length]'zl).toNat : Int) == 9) = true := by rw [zb, h9]; rfl
              clear hyc hz hc hsp zb hlen h32 h9
              go_wp2
              go_round
              case rel => exact ⟨z, rfl, hzl, HN.out⟩
              case measure => exact HM.out
          · have HR := Lib.hid (show Req.trim l = y by
              rw [HT.out, ← HX2.out, ← HY.out, Req.dw_same spB y.reverse (fun c hc => by
                cases h : spB c with
                | false => rfl
                | true => exact absurd ⟨c, hc, h⟩ hgo), List.reverse_reverse])
            by_cases hy0 : y = []
            · subst hy0
              have h00 : ¬ 0 < (S ([] : List UInt8)).size := by show ¬ 0 < 0; omega
              clear hgo
              go_wp2
              go_ret
              exact ⟨by rw [HR.out]; rfl, rfl⟩
            · obtain ⟨c, hc⟩ : ∃ c, y.reverse.head? = some c := by
                cases h : y.reverse with
                | nil => exact absurd (List.reverse_eq_nil_iff.1 h) hy0
                | cons c r => exact ⟨c, rfl⟩
              have hsp : spB c = false := by
                cases h : spB c with
                | false => rfl
                | true => exact absurd ⟨c, hc, h⟩ hgo
              have hyc := last_byte hc
              obtain ⟨z, hz⟩ : ∃ z, z = y.take (y.length - 1) := ⟨_, rfl⟩
              rw [← hz] at hyc
              have hlen : y.length = z.length + 1 := by rw [hyc]; simp
              have hsz : (S y).size = z.length + 1 := hlen
              have z0 : 0 < (S y).size := by omega
              have zl : z.length < (S y).size := by omega
              have zb : (S y)[z.length]'zl = c := by
                have h2 : (S y).data.toList[z.length]? = some c := by
                  show y[z.length]? = some c
                  rw [hyc]
                  simp
                rw [Lib.data_getElem? (S y) _ zl] at h2
                exact Option.some.inj h2
              have hzl : z.length ≤ 1073741824 := by omega
              rw [sp_is] at hsp
              simp at hsp
              have e1 : ((((S y)[z.length]'zl).toNat : Int) == 32) = false := by rw [zb]; exact u8_ne (n := 32) 32 rfl hsp.1
              have e2 : ((((S y)[z.length]'zl).toNat : Int) == 9) = false := by rw [zb]; exact u8_ne (n := 9) 9 rfl hsp.2
              clear hyc hz hc hsp zb hlen hgo hy0
              go_wp2
              go_ret
              exact ⟨by rw [HR.out]; rfl, rfl⟩
end Go.Proofs.YtbpeohadgplaaaaDoor
