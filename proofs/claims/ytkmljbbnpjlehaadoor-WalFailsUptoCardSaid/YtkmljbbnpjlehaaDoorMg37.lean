/- Are the things that are done to a log of a size that is looked at? No condition. A log and its disk behind things that were done, plain. No program stands in it. No condition. -/
import Derived.Test.YtkmljbbnpjlehaaDoorMg36
import Derived.Test.YtkmljbbnpjlehaaDoorMg32
namespace Go.Proofs.YtkmljbbnpjlehaaDoor
set_option maxRecDepth 8000
open Go.RowKit

namespace Wl
def okO (o : O) : Bool := Fr.few o.l && (Fr.small o.b && decide (o.p.length ≤ 50))
def fewO (l : List O) : Bool := l.all okO && decide (l.length ≤ 25)
end Wl
set_option maxHeartbeats 1600000 in
theorem fewO_any (w : World) (A : Option Addr) (cap : Nat) (l : List Wl.O) (h : WosIn w w.heap.size A l) (hl : l.length ≤ 9223372036854775807) :
    Calls Tryd.prog 13 #[.slice A l.length cap] w fun e w' => e = .returned (.bool (Wl.fewO l)) ∧ w = w' := by
  obtain ⟨n, hn⟩ : ∃ n, n = l.length := ⟨_, rfl⟩
  rw [← hn] at hl ⊢
  have HN := Lib.hid hn
  have HW := Lib.hid h
  clear hn h
  go_enter Tryd.func13, Tryd.ntmps13
  go_wp2_with fail
  go_loop [3] (fun iv => ∃ k : Nat, k ≤ n ∧ iv = .int .i64 k ∧ (l.take k).all Wl.okO = true) (fun iv => n - (intOf iv).toNat)
  case atStart => exact ⟨0, Nat.zero_le _, rfl, rfl⟩
  case round =>
    obtain ⟨k, hk, rfl, hall⟩ := hrel
    by_cases hlt : k < n
    · have hkl : k < l.length := by have := HN.out; omega
      obtain ⟨b, off, rfl, _, hc⟩ := HW.out (by omega)
      obtain ⟨m, hm, hin⟩ := hc k hkl
      have HSN : Hid ((l.take (k + 1)).all Wl.okO = Wl.okO l[k]) := Lib.hid (by rw [List.take_succ_eq_append_getElem hkl, List.all_append, hall]; simp)
      have HNO : Hid (Wl.okO l[k] = false → Wl.fewO l = false) := Lib.hid (fun h0 => by
        unfold Wl.fewO
        rw [List.all_eq_false.2 ⟨l[k], List.getElem_mem hkl, by rw [h0]; simp⟩]
        rfl)
      obtain ⟨o, ho⟩ : ∃ o, o = l[k] := ⟨_, rfl⟩
      rw [← ho] at hm hin HSN HNO
      have m2 := hm 2 _ rfl
      have m3 := hm 3 _ rfl
      have m4 := hm 4 _ rfl
      have hlb := hin.cb
      have hlp := hin.lp
      have HF := Lib.hid (refFew_any m.L m.cL o.l.length o.l w rfl hin.l (by have := hin.cl; omega) hin.lq)
      have HOK : Hid (Wl.okO o = (Fr.few o.l && (!(decide (100 < o.b.length) && decide (o.b.length ≤ 4000)) && decide (o.p.length ≤ 50)))) := Lib.hid rfl
      obtain ⟨fw, hfw⟩ : ∃ fw, fw = Fr.few o.l := ⟨_, rfl⟩
      obtain ⟨nb, hnb⟩ : ∃ nb, nb = o.b.length := ⟨_, rfl⟩
      obtain ⟨np, hnp⟩ : ∃ np, np = o.p.length := ⟨_, rfl⟩
      obtain ⟨nl, hnl⟩ : ∃ nl, nl = o.l.length := ⟨_, rfl⟩
      obtain ⟨ok, hok⟩ : ∃ ok, ok = Wl.okO o := ⟨_, rfl⟩
      rw [← hfw] at HF HOK
      rw [← hnl] at m3 HF
      rw [← hnb] at m2 hlb HOK
      rw [← hnp] at m4 hlp HOK
      rw [← hok] at HOK HSN HNO
      rw [← Nat.add_assoc] at m2 m3 m4
      clear ho hkl hc hm hin hall hfw hnb hnp hnl hok
      have hk0 : (0 : Int) ≤ (k : Int) := by omega
      have hkI : (k : Int) < (n : Int) := by omega
      go_wp2_with fail
      refine HF.out.mono ?_
      rintro _ _ ⟨rfl, rfl⟩
      clear HF
      cases fw with
      | false =>
        have HE : Hid (Wl.fewO l = false) := Lib.hid (HNO.out (by rw [HOK.out, Bool.false_and]))
        go_wp2_with fail
        go_ret
        exact ⟨ret_bool HE.out.symm, rfl⟩
      | true =>
        by_cases h1 : 100 < nb
        · have i1 : (100 : Int) < (nb : Int) := by omega
          by_cases h2 : nb ≤ 4000
          · have i2 : (nb : Int) ≤ 4000 := by omega
            have HE : Hid (Wl.fewO l = false) := Lib.hid (HNO.out (by rw [HOK.out, decide_eq_true h1, decide_eq_true h2]; rfl))
            go_wp2_with fail
            go_ret
            exact ⟨ret_bool HE.out.symm, rfl⟩
          · have i2 : ¬ (nb : Int) ≤ 4000 := by omega
            by_cases h3 : np ≤ 50
            · have i3 : ¬ (50 : Int) < (np : Int) := by omega
              have HT : Hid (ok = true) := Lib.hid (by rw [HOK.out, decide_eq_false h2, decide_eq_true h3]; simp)
              go_wp2_with fail
              go_round
              case rel => exact ⟨k + 1, by omega, by go_num, by rw [HSN.out, HT.out]⟩
              case measure => simp [intOf]; omega
            · have i3 : (50 : Int) < (np : Int) := by omega
              have HE : Hid (Wl.fewO l = false) := Lib.hid (HNO.out (by rw [HOK.out, decide_eq_false h3]; simp))
              go_wp2_with fail
              go_ret
              exact ⟨ret_bool HE.out.symm, rfl⟩
        · have i1 : ¬ (100 : Int) < (nb : Int) := by omega
          by_cases h3 : np ≤ 50
          · have i3 : ¬ (50 : Int) < (np : Int) := by omega
            have HT : Hid (ok = true) := Lib.hid (by rw [HOK.out, decide_eq_false h1, decide_eq_true h3]; simp)
            go_wp2_with fail
            go_round
            case rel => exact ⟨k + 1, by omega, by go_num, by rw [HSN.out, HT.out]⟩
            case measure => simp [intOf]; omega
          · have i3 : (50 : Int) < (np : Int) := by omega
            have HE : Hid (Wl.fewO l = false) := Lib.hid (HNO.out (by rw [HOK.out, decide_eq_false h3]; simp))
            go_wp2_with fail
            go_ret
            exact ⟨ret_bool HE.out.symm, rfl⟩
    · have hkI : ¬ (k : Int) < (n : Int) := by omega
      have HE : Hid (Wl.fewO l = decide ((n : Int) ≤ 25)) := Lib.hid (by
        have e := HN.out
        rw [List.take_of_length_le (by omega)] at hall
        unfold Wl.fewO
        rw [hall, ← e]
        simp
        omega)
      clear hall
      go_wp2_with fail
      go_ret
      exact ⟨ret_bool HE.out.symm, rfl⟩
end Go.Proofs.YtkmljbbnpjlehaaDoor
namespace Go.Proofs.YtkmljbbnpjlehaaDoor
set_option maxRecDepth 8000
namespace Wl
open Dk (D)

/-- An Append or a Replace; the other ones change nothing here. -/
def stepP (s : D × L) (o : O) : D × L := if o.x = 1 then (append s.1 s.2 o.b).2 else if o.x = 2 then (replace s.1 s.2 o.l).2 else s
structure Good (c n : Nat) (s : D × L) : Prop where
  inv : Inv c n s.1.kept s.2
  dn : s.1.n = n
  st : s.1.st = []
  fresh : Fresh s.1
theorem Kept.good {c n : Nat} {d : D} {l : L} {after : List Bytes} {r : Int × D × L} (h : Kept c n d l after r) (hg : Good c n (d, l)) : Good c n r.2 := by
  rcases h.kinds with h0 | h5 | h21
  · obtain ⟨g1, g2, g3, _⟩ := h.done h0
    exact ⟨g1, g3, g2, (h.fresh hg.fresh).2⟩
  · obtain ⟨g1, g2⟩ := h.full h5
    have e : r.2 = (d, l) := Prod.ext g1 g2
    rw [e]
    exact hg
  · exact absurd h21 (h.fresh hg.fresh).1
theorem Good.step {c n : Nat} {s : D × L} (h : Good c n s) (hc : c ≤ 32) (o : O) : Good c n (stepP s o) := by
  unfold stepP
  split
  · rcases h.inv.append hc h.dn h.st o.b with ⟨e, _, hr⟩ | hk
    · rw [hr]; exact h
    · exact hk.good h
  · split
    · rcases h.inv.replace hc h.dn h.st o.l with ⟨e, _, hr⟩ | hk
      · rw [hr]; exact h
      · exact hk.good h
    · exact h
def walkP (n : Nat) (l : List O) : D × L := l.foldl stepP (Dk.new (n : Int), ⟨0, 0, []⟩)
theorem walk_good {c n : Nat} (hc : c ≤ 32) : ∀ (l : List O) (s : D × L), Good c n s → Good c n (l.foldl stepP s)
  | [], _, h => h
  | o :: r, s, h => walk_good hc r (stepP s o) (h.step hc o)
theorem walk_take {n : Nat} {l : List O} {k : Nat} (hk : k < l.length) : walkP n (l.take (k + 1)) = stepP (walkP n (l.take k)) l[k] := by
  unfold walkP
  rw [List.take_succ_eq_append_getElem hk, List.foldl_append]
  rfl
end Wl
end Go.Proofs.YtkmljbbnpjlehaaDoor
