/- The call TicketUnlike answers true, for any two kinds and draws. -/
import Derived.Test.YtihfpockmginfaaDoorTkBk
namespace Go.Proofs.YtihfpockmginfaaDoor
set_option maxRecDepth 8000
open Go.RowKit

theorem u8_nat {x : Int} (h : (Lit.int .u8 x).wf = true) : ∃ n : Nat, x = (n : Int) ∧ n < 256 := by
  have e1 : IntKind.u8.min = 0 := by decide
  have e2 : IntKind.u8.max = 255 := by decide
  simp [Lit.wf] at h
  rw [e1, e2] at h
  exact ⟨x.toNat, by omega, by omega⟩
theorem name_mod (p n : Nat) (hp : p < 6) (hn : n < 18446744073709551616) (w : World) (hE : EnvT w) :
    Calls Tryd.prog 9 #[.int .i64 (1 + (p : Int)), .int .u64 n] w fun e w' => e = .returned (.tuple #[.string (S (Tk.name (p + 1) n)), .int .i64 0]) ∧ Below w.heap.size w w' := by
  have h := name_any ((p + 1 : Nat) : Int) n hn w hE
  rw [nameV_good (by omega) (by omega)] at h
  rw [show (1 + (p : Int)) = ((p + 1 : Nat) : Int) by omega]
  exact h

set_option maxHeartbeats 1600000 in
theorem ticketUnlike_any (x y a b : Int) (hx : (Lit.int .u8 x).wf = true) (hy : (Lit.int .u8 y).wf = true) (ha : (Lit.int .u64 a).wf = true) (hb : (Lit.int .u64 b).wf = true) (w : World) (hE : EnvT w) :
    Calls Tryd.prog 5 #[.int .u8 x, .int .u8 y, .int .u64 a, .int .u64 b] w (AwakePost w) := by
  obtain ⟨k, rfl, hk⟩ := u8_nat hx
  obtain ⟨l, rfl, hl⟩ := u8_nat hy
  obtain ⟨c, rfl, hc⟩ := u64_nat ha
  obtain ⟨d, rfl, hd⟩ := u64_nat hb
  clear hx hy ha hb
  have hA := awake_any w hE
  obtain ⟨p, hp⟩ : ∃ p, p = k % 6 := ⟨_, rfl⟩
  obtain ⟨q, hq⟩ : ∃ q, q = l % 6 := ⟨_, rfl⟩
  have hp6 : p < 6 := by omega
  have hq6 : q < 6 := by omega
  have mp : (k : Int) % 6 = (p : Int) := by omega
  have mq : (l : Int) % 6 = (q : Int) := by omega
  have tp : (k : Int).tmod 6 = (p : Int) := by rw [Int.tmod_eq_emod_of_nonneg (by omega)]; exact mp
  have tq : (l : Int).tmod 6 = (q : Int) := by rw [Int.tmod_eq_emod_of_nonneg (by omega)]; exact mq
  clear hp hq
  have hN := fun w' h => name_mod p c hp6 hc w' h
  have hM := fun w' h => name_mod q d hq6 hd w' h
  have hsn := name_length (k := p + 1) (by omega) (by omega) c
  have htn := name_length (k := q + 1) (by omega) (by omega) d
  have hfs : Tk.find (Tk.name (p + 1) c) = [Tk.name (p + 1) c] := by
    have := Tk.find_name (k := p + 1) (n := c) (by omega) (by omega) hc []
    rw [List.append_nil] at this
    rw [this]
    rfl
  obtain ⟨sm, hsm⟩ : ∃ sm, sm = decide (p = q ∧ c = d) := ⟨_, rfl⟩
  have hst : ((S (Tk.name (p + 1) c)).toList == (S (Tk.name (q + 1) d)).toList) = sm := by
    rw [S_list, S_list, hsm]
    by_cases h : p = q ∧ c = d
    · rw [h.1, h.2]; simp
    · rw [decide_eq_false h, beq_eq_false_iff_ne]
      intro e
      have := Tk.name_inj (by omega) (by omega) (by omega) hc hd e
      exact h ⟨by omega, this.2⟩
  have HW : Hid (∀ i, i + (Tk.name (p + 1) c).length ≤ (Tk.name (q + 1) d).length → ((Tk.name (q + 1) d).drop i).take (Tk.name (p + 1) c).length = Tk.name (p + 1) c → sm = true) := Lib.hid fun i hi e => by
    have := Tk.name_within (by omega) (by omega) (by omega) (by omega) hc hd hi e
    rw [hsm, decide_eq_true_iff]
    exact ⟨by omega, this.2⟩
  obtain ⟨nm, hnm⟩ : ∃ nm : Nat → Nat → List UInt8, nm = fun r n => Tk.name (r + 1) n := ⟨_, rfl⟩
  have hNN : ∀ w', EnvT w' → ∀ r n : Nat, r < 6 → n < 18446744073709551616 → Calls Tryd.prog 9 #[.int .i64 (1 + (r : Int)), .int .u64 n] w' fun e w'' => e = .returned (.tuple #[.string (S (nm r n)), .int .i64 0]) ∧ Below w'.heap.size w' w'' := fun w' h r n h1 h2 => by
    rw [hnm]
    exact name_mod r n h1 h2 w' h
  have es : Tk.name (p + 1) c = nm p c := by rw [hnm]
  have et : Tk.name (q + 1) d = nm q d := by rw [hnm]
  rw [es] at hsn hfs hst HW
  rw [et] at htn hst HW
  have hes : (S (nm p c)).toList.isEmpty = false := by
    rw [S_empty]
    cases h : nm p c with
    | nil => rw [h] at hsn; simp at hsn
    | cons _ _ => rfl
  have het : (S (nm q d)).toList.isEmpty = false := by
    rw [S_empty]
    cases h : nm q d with
    | nil => rw [h] at htn; simp at htn
    | cons _ _ => rfl
  have hF := fun w' h => find_any (nm p c) (by omega) w' h
  rw [hfs] at hF
  have hdd : decide ([nm p c] = [nm p c]) = true := by simp
  have HSM := Lib.hid hsm
  clear es et hfs hsm hnm
  go_enter Tryd.func5, Tryd.ntmps5
  go_upto_region 6 with (first
    | (go_at_call 8; refine hA.mono ?_; rintro e w1 ⟨rfl, hz⟩; have hEz := hE.next hz)
    | (go_at_call 9; refine (hNN _ hEz _ _ (by assumption) (by assumption)).mono ?_; rintro e w2 ⟨rfl, hq⟩; have hz := hz.trans (hq.mono hz.size); have hEz := hE.next hz))
  rename World => w3
  go_cut [14] (fun t wx => t = .bool sm ∧ w3 = wx)
  case first =>
    by_cases h1 : p = q
    · by_cases h2 : c = d
      · have e : sm = true := by rw [HSM.out, h1, h2]; simp
        subst h1 h2
        go_wp2
        go_meet
        exact ⟨by rw [e], rfl⟩
      · have e : sm = false := by rw [HSM.out]; simp [h2]
        have c1 : ((c : Int) == (d : Int)) = false := by simp; omega
        subst h1
        go_wp2
        go_meet
        exact ⟨by rw [e], rfl⟩
    · have e : sm = false := by rw [HSM.out]; simp [h1]
      have c1 : ((p : Int) == (q : Int)) = false := by simp; omega
      go_wp2
      go_meet
      exact ⟨by rw [e], rfl⟩
  case rest =>
    obtain ⟨rfl, rfl⟩ := hcut
    clear mp mq tp tq hNN hA
    obtain ⟨n, hn⟩ : ∃ n, n = (nm p c).length := ⟨_, rfl⟩
    obtain ⟨m, hm⟩ : ∃ m, m = (nm q d).length := ⟨_, rfl⟩
    have hs1 : (S (nm p c)).size = n := by rw [hn]; rfl
    have ht1 : (S (nm q d)).size = m := by rw [hm]; rfl
    rw [← hn] at hsn HW
    rw [← hm] at htn HW
    have HN := Lib.hid hn
    have HM := Lib.hid hm
    clear hn hm
    go_upto_region 8 with fail
    go_loop [15] (fun vi => ∃ i : Nat, vi = .int .i64 i ∧ i ≤ m + 1) (fun vi => m + 1 - (intOf vi).toNat)
    case atStart => exact ⟨0, rfl, by omega⟩
    case round =>
      obtain ⟨i, rfl, hi⟩ := hrel
      have hw0 : IntKind.i64.wrap ((i : Int) + (n : Int)) = (i : Int) + (n : Int) := by rw [IntKind.wrap_i64]; omega
      by_cases hin : i + n ≤ m
      · have hx : (S (nm q d)).extract i (i + n) = S (((nm q d).drop i).take n) := by
          rw [extract_piece, S_toList, show i + n - i = n by omega]
        have hw := fun h => HW.out i hin h
        have hc : ((S (((nm q d).drop i).take n)).toList == (S (nm p c)).toList) = decide (((nm q d).drop i).take n = nm p c) := by
          rw [S_list, S_list, Bool.eq_iff_iff]
          simp
        have HC := Lib.hid hc
        generalize ((nm q d).drop i).take n = z at hx hw HC
        clear hc
        by_cases hz0 : z = nm p c
        · have e := hw hz0
          have c2 : ((S z).toList == (S (nm p c)).toList) = true := by rw [HC.out]; simp [hz0]
          subst e
          clear hw hz0 HC
          go_wp2
          go_round
          case rel => exact ⟨i + 1, by go_num, by omega⟩
          case measure => simp [intOf]; omega
        · have c2 : ((S z).toList == (S (nm p c)).toList) = false := by rw [HC.out]; simp [hz0]
          clear hw hz0 HC
          go_wp2
          go_round
          case rel => exact ⟨i + 1, by go_num, by omega⟩
          case measure => simp [intOf]; omega
      · go_wp2_with (first
          | (go_at_call 17; refine (hF _ hEz).mono ?_; rintro e w4 ⟨v, rfl, hr, hq⟩; have hz := hz.trans (hq.mono hz.size))
          | (go_at_call 16; refine (texts_one hr (by simp) (nm p c)).mono ?_; rintro e w5 ⟨rfl, hq⟩; have hz := hz.trans (hq.mono hz.size)))
        go_ret
        exact ⟨ret_bool (by simp), hz⟩
end Go.Proofs.YtihfpockmginfaaDoor
