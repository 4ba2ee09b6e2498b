/- The frame that a text begins with, as the program's own first tells it; bytes.HasPrefix; for any bytes of at most 2^24. The program's own iterator over frames (frames and its function), for any rounds that keep what the caller says; for any bytes of at most 2^24. -/
import Derived.Test.YtfceljbmdcbciaaDoorMg15
import Derived.Test.YtfceljbmdcbciaaDoorMg14
import Derived.Lib.SliceRun
import Derived.RangeFuncBound
import Derived.RangeFuncCalls
import Derived.RangeFuncLeaves
import Derived.Shelf.Abstract
import Derived.Shelf.RegionOpen
import Derived.OwnWalkIn
import Derived.TacticsInMore
import Derived.LoopNIn
import Derived.LoopIn
namespace Go.Proofs.YtfceljbmdcbciaaDoor
set_option maxRecDepth 8000
open Go.RowKit

theorem i64_or_nat (a b : Nat) (ha : a < 1048576) (hb : b < 1048576) : bits .or .i64 (a : Int) (b : Int) = ((a ||| b : Nat) : Int) := by
  have hx : a ||| b < 2 ^ 20 := Nat.or_lt_two_pow (by omega) (by omega)
  have h1 : (BitVec.ofInt 64 (a : Int)).toNat = a := by rw [BitVec.ofInt_natCast, BitVec.toNat_ofNat]; exact Nat.mod_eq_of_lt (by omega)
  have h2 : (BitVec.ofInt 64 (b : Int)).toNat = b := by rw [BitVec.ofInt_natCast, BitVec.toNat_ofNat]; exact Nat.mod_eq_of_lt (by omega)
  show IntKind.i64.wrap ((BitVec.ofInt 64 (a : Int) ||| BitVec.ofInt 64 (b : Int)).toNat : Int) = _
  rw [BitVec.toNat_or, h1, h2]
  exact IntWalk.i64_in _ (by omega)
theorem or_low (a b : Nat) (hb : b < 256) : 256 * a ||| b = 256 * a + b := (Nat.two_pow_add_eq_or_of_lt (i := 8) hb a).symm

theorem equal_any (w : World) (A A' : Option Addr) (l l' : List UInt8) (n n' c c' : Nat) (hn : n = l.length) (hn' : n' = l'.length) (h : BCells w w.heap.size A l) (h' : BCells w w.heap.size A' l') :
    Calls Tryd.prog 133 #[.slice A n c, .slice A' n' c'] w fun e w' => e = .returned (.bool (decide (l = l'))) ∧ w = w' := by
  have h1 := bin_string w A l c h
  have h2 := bin_string w A' l' c' h'
  rw [← hn] at h1
  rw [← hn'] at h2
  clear hn hn'
  go_enter Tryd.func133, Tryd.ntmps133
  go_wp2_with fail
  go_ret
  exact ⟨ret_bool (S_eq l l'), rfl⟩
theorem take_cellsF {w : World} {bd m : Nat} {A : Option Addr} {l : List UInt8} (h : BCells w bd A l) : BCells w bd A (l.take m) := fun hn => by
  rw [List.length_take] at hn
  obtain ⟨b, o, e, hlt, hc⟩ := h (by omega)
  refine ⟨b, o, e, hlt, fun k hk => ?_⟩
  rw [List.length_take] at hk
  rw [List.getElem_take]
  exact hc k (by omega)
theorem hasPrefix_any (w : World) (A A' : Option Addr) (l p : List UInt8) (n m c c' : Nat) (hn : n = l.length) (hm : m = p.length) (hc : n ≤ c) (_hcm : c ≤ 9223372036854775807) (h : BCells w w.heap.size A l) (h' : BCells w w.heap.size A' p) :
    Calls Tryd.prog 118 #[.slice A n c, .slice A' m c'] w fun e w' => e = .returned (.bool (decide (l.take m = p))) ∧ w = w' := by
  by_cases hle : m ≤ n
  · have HE := Lib.hid (equal_any w A A' (l.take m) p m m c c' (by rw [List.length_take]; omega) hm (take_cellsF h) h')
    have h1 : (m : Int) ≤ (n : Int) := by omega
    have h2 : (m : Int) ≤ (c : Int) := by omega
    have h3 : (0 : Int) ≤ (m : Int) := by omega
    clear hn hm h h'
    go_enter Tryd.func118, Tryd.ntmps118
    go_wp2_with fail
    refine HE.out.mono ?_
    rintro _ _ ⟨rfl, rfl⟩
    go_wp2_with fail
    go_ret
    exact ⟨rfl, rfl⟩
  · have hd : ¬ l.take m = p := fun e => by
      have := congrArg List.length e
      rw [List.length_take] at this
      omega
    have h1 : ¬ (m : Int) ≤ (n : Int) := by omega
    have HD := Lib.hid hd
    clear hd hn hm
    go_enter Tryd.func118, Tryd.ntmps118
    go_wp2_with fail
    go_ret
    exact ⟨ret_bool (decide_eq_false HD.out).symm, rfl⟩
theorem row_base {base base' : Nat} {w : World} {v : Value} {l : List UInt8} (h : Row base w v l) (hle : base' ≤ base) : Row base' w v l := by
  refine ⟨h.1, ?_⟩
  rcases h.2 with h1 | ⟨g, cap, cur, hv, hb, hg, hr⟩
  · exact .inl h1
  · exact .inr ⟨g, cap, cur, hv, Nat.le_trans hle hb, hg, hr⟩
/-- What first tells. -/
def FirstPost (l : List UInt8) (w : World) (e : Ending) (w' : World) : Prop :=
  Below w.heap.size w w' ∧ match Fr.one l with
  | none => e = .returned (.slice none 0 0)
  | some (x, _) => ∃ A c, e = .returned (.slice A (6 + x.length) c) ∧ Row w.heap.size w' (.slice A (6 + x.length) c) (Fr.frame x)
theorem size_anyE (n e : Nat) (w : World) (hn : n ≤ 1099511627776) (he : e = n + 6) : Calls Tryd.prog 93 #[.int .i64 (n : Int)] w fun v w' => v = .returned (.int .i64 (e : Int)) ∧ w' = w := by
  refine (size_any n w hn).mono ?_
  rintro _ _ ⟨rfl, rfl⟩
  exact ⟨by rw [show (n : Int) + 6 = (e : Int) by omega], rfl⟩

set_option maxHeartbeats 1600000 in
theorem first_any (A : Option Addr) (c n : Nat) (l : List UInt8) (w : World) (hH : Hs w) (hn : l.length = n) (hb : BCells w w.heap.size A l) (hc : n ≤ c) (hcm : c ≤ 9223372036854775807) (hl : n ≤ 16777216) :
    Calls Tryd.prog 106 #[.slice A n c] w (FirstPost l w) := by
  by_cases h6 : n < 6
  · have HO : Hid (Fr.one l = none) := Lib.hid (by
      have := Fr.one_end (b := l) (a := 0) (by omega)
      rwa [List.drop_zero] at this)
    have h6' : (n : Int) < 6 := by omega
    clear hn
    go_enter Tryd.func106, Tryd.ntmps106
    go_wp2_with fail
    go_ret
    exact ⟨Below.refl _ _, by rw [HO.out]; rfl⟩
  · have hal : 0 + 1 < l.length := by omega
    have hlen := Fr.len_at hal
    rw [List.drop_zero] at hlen
    obtain ⟨bb, off, rfl, hbb, hcl⟩ := hb (by omega)
    have c0 := hcl 0 (by omega)
    have c1 := hcl 1 (by omega)
    obtain ⟨x0, hx0⟩ : ∃ x : Nat, x = l[0].toNat := ⟨_, rfl⟩
    obtain ⟨x1, hx1⟩ : ∃ x : Nat, x = l[1].toNat := ⟨_, rfl⟩
    have h0 : x0 < 256 := by rw [hx0]; exact UInt8.toNat_lt _
    have h1 : x1 < 256 := by rw [hx1]; exact UInt8.toNat_lt _
    obtain ⟨m, hm⟩ : ∃ m, m = Fr.len l := ⟨_, rfl⟩
    have hmx : m = 256 * x0 + x1 := by rw [hm, hlen, hx0, hx1]
    obtain ⟨e, he⟩ : ∃ e, e = m + 6 := ⟨_, rfl⟩
    rw [B, ← hx0, Nat.add_zero] at c0
    rw [B, ← hx1] at c1
    obtain ⟨y0, hy0⟩ : ∃ y0, y0 = 256 * x0 := ⟨_, rfl⟩
    have hs1 : IntKind.i64.wrap ((x0 : Int) * 256) = (y0 : Int) := by rw [IntWalk.i64_in _ (by omega)]; omega
    have hs2 : bits .or .i64 (y0 : Int) (x1 : Int) = (m : Int) := by rw [i64_or_nat y0 x1 (by omega) (by omega), hy0, or_low x0 x1 h1, hmx]
    have HSZ := Lib.hid (fun (wx : World) => size_anyE m e wx (by omega) he)
    have hn6 : ¬ (n : Int) < 6 := by omega
    have hp0 : (0 : Int) < (n : Int) := by omega
    have hp1 : (1 : Int) < (n : Int) := by omega
    have HE := Lib.hid (And.intro he (And.intro hm hmx))
    have HB := Lib.hid hb
    have HN := Lib.hid hn
    have HY := Lib.hid hy0
    clear he hm hmx hx0 hx1 hlen hal hcl hb hn hy0
    go_enter Tryd.func106, Tryd.ntmps106
    go_upto_region 3 with fail
    go_quiet ((go_at_call 93; exact Calls.quiet_of_same (HSZ.out _)))
    have hbq := below_drewN' (Below.refl w.heap.size w) nq
    generalize w.drewN nq = w2 at hbq ⊢
    have hH2 := hH.next hbq
    clear c0 c1 hs1 hs2 HSZ
    by_cases hen : e ≤ n
    · have hone : Fr.one l = match Fr.put ((l.drop 6).take m) with
          | .error _ => none
          | .ok f => if l.take (6 + m) = f then some ((l.drop 6).take m, l.drop (6 + m)) else none := by
        obtain ⟨qe, qm, _⟩ := HE.out
        have := Fr.one_at (b := l) (a := 0) (n := m) (by rw [List.drop_zero]; exact qm) (by have := HN.out; omega)
        rw [List.drop_zero, Nat.zero_add] at this
        exact this
      obtain ⟨x, hx⟩ : ∃ x, x = (l.drop 6).take m := ⟨_, rfl⟩
      have hxl : x.length = m := by
        have := HN.out
        have := HE.out
        rw [hx, List.length_take, List.length_drop]
        omega
      rw [← hx] at hone
      have HONE := Lib.hid hone
      have k1 : ¬ (n : Int) < (e : Int) := by omega
      have k2 : (e : Int) ≤ (c : Int) := by omega
      have k3 : (6 : Int) ≤ (e : Int) := by have := HE.out; omega
      have hem : e - 6 = m := by have := HE.out; omega
      obtain ⟨c6, hc6⟩ : ∃ c6, c - 6 = c6 := ⟨_, rfl⟩
      by_cases hm0 : m = 0
      · have hx0 : x = [] := List.length_eq_zero_iff.1 (by omega)
        subst hx0
        have HS : Hid (Fr.one l = none) := Lib.hid (by rw [HONE.out]; rfl)
        have HP := Lib.hid (fun (A0 : Option Addr) (c0 : Nat) => put_any A0 c0 0 [] w2 hH2 rfl (fun h => absurd h (by simp)) (by omega))
        subst hm0
        clear hx hxl hone
        go_wp2_with fail
        all_goals
          refine (HP.out _ _).mono ?_
          rintro _ w3 ⟨hb3, rfl⟩
          go_wp2_with fail
          go_ret
          exact ⟨hbq.trans (hb3.mono hbq.size), by rw [HS.out]; rfl⟩
      · have hlc : 6 < c := by have := HE.out; omega
        have hxc0 := sub_cells (a := 6) (m := m) HB.out
        rw [← hx] at hxc0
        have hxc := (hxc0.keepB hbq (Nat.le_refl _)).moreB hbq.size
        have HP := Lib.hid (put_any (some ⟨bb, off + 6, none⟩) c6 m x w2 hH2 hxl hxc (by omega))
        have hcn1 : ¬ c = 6 := by omega
        have hcn2 : ¬ c6 = 0 := by omega
        have hcn3 : ¬ c ≤ 6 := by omega
        have hcn4 : (c == 6) = false := by simp; omega
        have hcn5 : 0 < c6 := by omega
        have HXL := Lib.hid hxl
        clear hxc hxc0 hxl hx hone hH2
        cases hput : Fr.put x with
        | error k =>
          have HS : Hid (Fr.one l = none) := Lib.hid (by rw [HONE.out, hput])
          have hk : ((k : Int) != 0) = true := by
            have hk0 : k ≠ 0 := by
              unfold Fr.put at hput
              by_cases q0 : x.length = 0
              · rw [if_pos q0] at hput
                injection hput with hput
                omega
              · rw [if_neg q0] at hput
                by_cases q4 : 4000 < x.length
                · rw [if_pos q4] at hput
                  injection hput with hput
                  omega
                · rw [if_neg q4] at hput; cases hput
            simp
            omega
          rw [hput] at HP
          clear hput
          go_wp2_with fail
          refine HP.out.mono ?_
          rintro _ w3 ⟨hb3, rfl⟩
          go_wp2_with fail
          go_ret
          exact ⟨hbq.trans (hb3.mono hbq.size), by rw [HS.out]; rfl⟩
        | ok f =>
          have hxok : Fr.ok x = true := by
            cases hok : Fr.ok x with
            | true => rfl
            | false =>
              obtain ⟨e', _, hp⟩ := Fr.put_bad hok
              rw [hp] at hput
              cases hput
          have hfx : f = Fr.frame x := by
            rw [Fr.put_ok hxok] at hput
            injection hput with hput
            exact hput.symm
          have hfl : f.length = 6 + x.length := by rw [hfx, Fr.frame_len]
          rw [hput] at HP
          have HO2 : Hid (Fr.one l = if l.take (6 + m) = f then some (x, l.drop (6 + m)) else none) := Lib.hid (by rw [HONE.out, hput])
          have HFX := Lib.hid hfx
          obtain ⟨fl, hfll⟩ : ∃ fl, fl = f.length := ⟨_, rfl⟩
          have HFL : Hid (fl = 6 + x.length ∧ fl = 6 + m) := Lib.hid ⟨by omega, by have := HXL.out; omega⟩
          clear hput hxok hfx hfl
          go_wp2_with fail
          refine HP.out.mono ?_
          rintro _ w3 ⟨hb3, Af, cf, rfl, hrf⟩
          have hbe3 := hbq.trans (hb3.mono hbq.size)
          have hfc := row_cells hrf
          rw [← hfll] at hrf ⊢
          have HPR := Lib.hid (hasPrefix_any w3 (some ⟨bb, off, none⟩) Af l f n fl c cf HN.out.symm hfll hc hcm (HB.out.next hbe3) hfc)
          have HROW := Lib.hid hrf
          clear hfll hfc hrf
          by_cases hq : l.take (6 + m) = f
          · have HS : Hid (Fr.one l = some (x, l.drop (6 + m))) := Lib.hid (by rw [HO2.out, if_pos hq])
            have HPR2 := Lib.hid (HPR.out.mono (R' := fun e w' => e = .returned (.bool true) ∧ w3 = w') (fun _ _ ⟨h1, h2⟩ => ⟨by rw [h1, HFL.out.2, decide_eq_true hq], h2⟩))
            clear hq HPR
            go_wp2_with fail
            refine HPR2.out.mono ?_
            rintro _ _ ⟨rfl, rfl⟩
            go_wp2_with fail
            go_ret
            refine ⟨hbe3, ?_⟩
            rw [HS.out]
            refine ⟨Af, cf, ?_, ?_⟩
            · rw [← HFL.out.1]; rfl
            · have h := row_base HROW.out hbq.size
              rwa [HFX.out, HFL.out.1] at h
          · have HS : Hid (Fr.one l = none) := Lib.hid (by rw [HO2.out, if_neg hq])
            have HPR2 := Lib.hid (HPR.out.mono (R' := fun e w' => e = .returned (.bool false) ∧ w3 = w') (fun _ _ ⟨h1, h2⟩ => ⟨by rw [h1, HFL.out.2, decide_eq_false hq], h2⟩))
            clear hq HPR
            go_wp2_with fail
            refine HPR2.out.mono ?_
            rintro _ _ ⟨rfl, rfl⟩
            go_wp2_with fail
            go_ret
            exact ⟨hbe3, by rw [HS.out]; rfl⟩
    · have HS : Hid (Fr.one l = none) := Lib.hid (by
        have := Fr.one_long (b := l) (a := 0) (n := m) (by rw [List.drop_zero]; exact HE.out.2.1) (by have := HN.out; have := HE.out; omega)
        rwa [List.drop_zero] at this)
      have hno : (n : Int) < (e : Int) := by omega
      go_wp2_with fail
      go_ret
      exact ⟨hbq, by rw [HS.out]; rfl⟩
end Go.Proofs.YtfceljbmdcbciaaDoor
namespace Go.Proofs.YtfceljbmdcbciaaDoor
set_option maxRecDepth 100000
open Go.RowKit
attribute [local go_sem] Oper.semAt_some

theorem eql_nil (w : World) : (binOp .eql 36 (.slice none 0 0) (.slice none 0 0)).run Tryd.prog w = .ok (.bool true) w := Lib.run_eql_slice_nil w _ 5 none 0 0 0 0 Tryd.underlying36
theorem eql_some (w : World) (g n c : Nat) : (binOp .eql 36 (.slice (some ⟨g, 0, none⟩) n c) (.slice none 0 0)).run Tryd.prog w = .ok (.bool false) w := Lib.run_eql_slice_nil w _ 5 (some ⟨g, 0, none⟩) n c 0 0 Tryd.underlying36
theorem first_some {A : Option Addr} {c n : Nat} {l x r : List UInt8} {fl : Nat} {w : World} (hH : Hs w) (hn : l.length = n) (hb : BCells w w.heap.size A l) (hc : n ≤ c) (hcm : c ≤ 9223372036854775807) (hl : n ≤ 16777216) (ho : Fr.one l = some (x, r)) (hfl : fl = 6 + x.length) :
    Calls Tryd.prog 106 #[.slice A n c] w fun e w' => Below w.heap.size w w' ∧ ∃ g cf, e = .returned (.slice (some ⟨g, 0, none⟩) fl cf) ∧ Row w.heap.size w' (.slice (some ⟨g, 0, none⟩) fl cf) (Fr.frame x) := by
  subst hfl
  refine (first_any A c n l w hH hn hb hc hcm hl).mono ?_
  rintro e w' ⟨h1, h2⟩
  rw [ho] at h2
  obtain ⟨A', c', rfl, hrow⟩ := h2
  obtain ⟨g, cap, hv, _, _⟩ := World.ownsRow.form hrow (by rw [Fr.frame_len]; omega)
  injection hv with hA _ _
  subst hA
  exact ⟨h1, g, c', rfl, hrow⟩
theorem first_none {A : Option Addr} {c n : Nat} {l : List UInt8} {w : World} (hH : Hs w) (hn : l.length = n) (hb : BCells w w.heap.size A l) (hc : n ≤ c) (hcm : c ≤ 9223372036854775807) (hl : n ≤ 16777216) (ho : Fr.one l = none) :
    Calls Tryd.prog 106 #[.slice A n c] w fun e w' => Below w.heap.size w w' ∧ e = .returned (.slice none 0 0) := by
  refine (first_any A c n l w hH hn hb hc hcm hl).mono ?_
  rintro e w' ⟨h1, h2⟩
  rw [ho] at h2
  exact ⟨h1, h2⟩
theorem frames_any (A : Option Addr) (c n : Nat) (w : World) :
    Calls Tryd.prog 77 #[.slice A n c] w fun e w' => e = .returned (.func (.func 105) #[] #[.pointer (some ⟨w.heap.size, 0, none⟩)]) ∧ w' = w.alloc (.cells #[.slice A n c] 36) := by
  go_enter Tryd.func77, Tryd.ntmps77
  go_wp2_with fail
  go_ret
  exact ⟨rfl, rfl⟩
/-- What is left of the slice: behind the first f bytes. -/
def restLen : Value → Nat
  | .slice _ n _ => n
  | _ => 0
def IterRel (l : List UInt8) (n₀ : Nat) (J : List (List UInt8) → Nat → World → Prop) (v : Value) (wr : World) : Prop :=
  ∃ (acc : List (List UInt8)) (a : Nat) (A : Option Addr) (n c : Nat), v = .slice A n c ∧ Fr.ScanTo l acc a ∧ (l.drop a).length = n ∧ BCells wr n₀ A (l.drop a) ∧ n ≤ c ∧ c ≤ 9223372036854775807 ∧ J acc a wr

set_option maxHeartbeats 4000000 in
theorem iter_in (k lp Bs n₀ : Nat) (A : Option Addr) (c n : Nat) (l : List UInt8) (W : World) (J : List (List UInt8) → Nat → World → Prop) (hk : 1 ≤ k)
    (hJ : ∀ acc a w w', J acc a w → Below w.heap.size w w' → J acc a w') (hJH : ∀ acc a w, J acc a w → Hs w) (hJB : ∀ acc a w, J acc a w → Below n₀ W w) (hn₀ : n₀ ≤ W.heap.size)
    (hY : ∀ acc a x g cf fl w0 w1, J acc a w0 → Below w0.heap.size w0 w1 → fl = 6 + x.length → Row w0.heap.size w1 (.slice (some ⟨g, 0, none⟩) fl cf) (Fr.frame x) → Fr.ok x = true → a + fl ≤ l.length →
      YieldAt Fence.wide (k - 1) Tryd.prog lp #[.slice (some ⟨g, 0, none⟩) fl cf] w1 fun e w' => e = .returned (.bool true) ∧ J (acc ++ [x]) (a + fl) w' ∧ Below n₀ w1 w')
    (hBs : W.cell? ⟨Bs, 0, none⟩ = some (.slice A n c)) (hn : l.length = n) (hb : BCells W n₀ A l) (hc : n ≤ c) (hcm : c ≤ 9223372036854775807) (hl : n ≤ 16777216) (h0 : J [] 0 W) :
    CallsIn Fence.wide k Tryd.prog 105 #[.func (.yield lp) #[] #[], .pointer (some ⟨Bs, 0, none⟩)] W fun e w' => (∃ v, e = .returned v) ∧ ∃ acc a, Fr.scan l = (acc, a) ∧ J acc a w' := by
  have HB := Lib.hid hb
  have HN := Lib.hid hn
  clear hb hn
  refine callsIn_of_wp Tryd.func105 rfl trivial ?_ rfl
  simp only [Tryd.ntmps105, List.size_toArray, List.length_cons, List.length_nil, Nat.reduceAdd, Nat.reduceSub, Array.replicate_succ, Array.replicate_zero, List.push_toArray, List.append_toArray, List.nil_append, List.cons_append]
  gi_wp2
  gi_loopw [3] (fun v wr => IterRel l n₀ J v wr) (fun v _ => restLen v)
  case atStart => exact ⟨[], 0, A, n, c, rfl, Fr.ScanTo.start l, by rw [List.drop_zero]; exact HN.out, by rw [List.drop_zero]; exact HB.out, hc, hcm, h0⟩
  case round =>
    obtain ⟨acc, a, A', n', c', rfl, hsc, hn', hb', hc', hcm', hJr⟩ := hrel
    have hs' : n' ≤ 16777216 := by
      have := HN.out
      rw [List.length_drop] at hn'
      omega
    have hsz := (hJB _ _ _ hJr).size
    have hb'' := hb'.moreB (Nat.le_trans hn₀ hsz)
    have HSC := Lib.hid hsc
    cases ho : Fr.one (l.drop a) with
    | none =>
      have HF := Lib.hid (first_none (hJH _ _ _ hJr) hn' hb'' hc' hcm' hs' ho)
      have HS := Lib.hid (hsc.stop ho)
      have HJR := Lib.hid hJr
      have hE := eql_nil
      clear hsc hn' hb' hb'' hJr ho
      gi_wp2_with (refine ⟨trivial, ?_⟩; gi_at_call 106; refine (callsIn_wide.2 HF.out).mono ?_; rintro _ w2 ⟨hb2, rfl⟩)
      refine ⟨fun _ h => (by cases h), ?_⟩
      gi_wp2
      refine bodyPost_ret (results_none rfl _ _ _) rfl ?_
      exact ⟨⟨_, rfl⟩, acc, a, HS.out, hJ _ _ _ _ HJR.out hb2⟩
    | some q =>
      obtain ⟨x, r⟩ := q
      have hx := (Fr.one_is ho).1
      have hle := Fr.one_less ho
      obtain ⟨fl, hfl⟩ : ∃ fl, fl = 6 + x.length := ⟨_, rfl⟩
      have HF := Lib.hid (first_some (hJH _ _ _ hJr) hn' hb'' hc' hcm' hs' ho hfl)
      have hlt : fl ≤ n' := by omega
      have hr : r = l.drop (a + fl) := by
        have e := (Fr.one_is ho).2
        have e2 := congrArg (List.drop fl) e
        rw [List.drop_drop, hfl, ← Fr.frame_len, List.drop_left] at e2
        rw [hfl, ← Fr.frame_len]
        exact e2.symm
      have hal : a + fl ≤ l.length := by
        rw [List.length_drop] at hn'
        omega
      have HST : Hid (Fr.ScanTo l (acc ++ [x]) (a + fl)) := Lib.hid (hsc.step (by rw [ho, hr]) (by omega) hal)
      have hpos : 0 < fl := by omega
      have HJR := Lib.hid hJr
      have HX := Lib.hid (And.intro hx (And.intro hfl hal))
      have HB2 := Lib.hid hb'
      have HNN := Lib.hid hn'
      obtain ⟨b0, o0, rfl, _, _⟩ := hb' (by omega)
      have hE := eql_some
      have i1 : (fl : Int) ≤ (n' : Int) := by omega
      have i2 : (0 : Int) ≤ (fl : Int) := by omega
      have i3 : (fl : Int) ≤ (c' : Int) := by omega
      have i4 : (n' : Int) ≤ (c' : Int) := by omega
      obtain ⟨nn, hnn⟩ : ∃ nn, n' - fl = nn := ⟨_, rfl⟩
      obtain ⟨cc, hcc⟩ : ∃ cc, c' - fl = cc := ⟨_, rfl⟩
      clear hsc hn' hb' hb'' hJr ho hx hle hfl hr hal
      gi_wp2_with (refine ⟨trivial, ?_⟩; gi_at_call 106; refine (callsIn_wide.2 HF.out).mono ?_; rintro _ w2 ⟨hb2, g, cf, rfl, hrow2⟩; have HYY := Lib.hid (hY acc a x g cf fl wr w2 HJR.out hb2 HX.out.2.1 hrow2 HX.out.1 HX.out.2.2); obtain ⟨fn, tmps, assign, body, hy, hR⟩ := HYY.out; clear HYY hrow2)
      refine hR.mono ?_
      rintro _ w3 ⟨rfl, hJ3, hB3⟩
      have HJ3 := Lib.hid hJ3
      have hcd : (l.drop (a + fl)).length = nn := by
        have := HNN.out
        have := HX.out.2.2
        rw [List.length_drop] at *
        omega
      have HCD := Lib.hid hcd
      have HBC : Hid (BCells w3 n₀ (some ⟨b0, o0 + fl, none⟩) (l.drop (a + fl))) := Lib.hid (by
        have h1 := ((HB2.out.keepB hb2 (Nat.le_trans hn₀ hsz)).keepB hB3 (Nat.le_refl _))
        have h2 := sub_cells (a := fl) (m := nn) h1
        rw [List.drop_drop] at h2
        rwa [List.take_of_length_le (by omega)] at h2)
      have HME : Hid (nn < n' ∧ nn ≤ cc ∧ cc ≤ 9223372036854775807) := Lib.hid (by omega)
      clear hJ3 hcd hR hy hE HF hb2 hB3
      by_cases hcf : c' = fl
      · have HZ : Hid (l.drop (a + fl) = []) := Lib.hid (List.length_eq_zero_iff.1 (by rw [HCD.out]; omega))
        have hn0 : n' = fl := by omega
        subst hcf
        subst hn0
        have HCN : Hid (nn = 0) := Lib.hid (by omega)
        clear hcc
        gi_wp2
        refine ⟨⟨_, _, _, nn, nn, rfl, HST.out, HCD.out, ?_, Nat.le_refl _, by have := HME.out; omega, HJ3.out⟩, HME.out.1⟩
        rw [HZ.out]
        exact fun h => absurd h (by simp)
      · have hn1 : ¬ c' ≤ fl := by omega
        have hn2 : (c' == fl) = false := by simp; omega
        have hn3 : ¬ cc = 0 := by omega
        have hn4 : 0 < cc := by omega
        gi_wp2
        exact ⟨⟨_, _, _, nn, cc, rfl, HST.out, HCD.out, HBC.out, HME.out.2.1, HME.out.2.2, HJ3.out⟩, HME.out.1⟩
end Go.Proofs.YtfceljbmdcbciaaDoor
