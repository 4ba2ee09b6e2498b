/- Open of a disk without records, and the law's made. Condition: the table of sums reads as its text lays it. A Commit of changes that can't be, or of none. Condition: none. -/
import Derived.Test.YtfceljbmdcbciaaDoorMg37
import Derived.Carry
namespace Go.Proofs.YtfceljbmdcbciaaDoor
set_option maxRecDepth 8000
open Go.RowKit

/-- A new store on a new disk: all its blocks are of the call's own. -/
def NewPost (w0 : World) (P : Nat) (d : Dk.D) (l : Wl.L) (Q : Nat) (w' : World) : Prop :=
  ∃ (L N b : Nat), SY (fun x => w0.heap.size ≤ x ∧ x < N) w' P L d l ∧ w'.heap[Q]? = some (.cells #[.pointer (some ⟨L, 0, none⟩), .map (some b)] 111 (0, 0)) ∧ TB w' b 0 (.map []) ∧ N ≤ Q ∧ N ≤ b ∧ N ≤ w'.heap.size ∧ w0.heap.size ≤ N ∧ Below w0.heap.size w0 w'
theorem NewPost.sk {w0 w' : World} {P Q : Nat} {d : Dk.D} {l : Wl.L} (h : NewPost w0 P d l Q w') : ∃ (L N : Nat), SK (fun x => w0.heap.size ≤ x ∧ x < N) w' P L Q d l 0 (.map []) ∧ N ≤ w'.heap.size ∧ w0.heap.size ≤ Q ∧ Below w0.heap.size w0 w' := by
  obtain ⟨L, N, b, h1, h2, h3, h4, h5, h6, h7, h8⟩ := h
  exact ⟨L, N, ⟨h1, b, h2, h3, fun h => by omega, fun h => by omega⟩, h6, by omega, h8⟩
set_option maxHeartbeats 1600000 in
theorem kvOpen_empty (w0 w : World) (P : Nat) (d : Dk.D) (l : Wl.L) (hH : Hs w) (hd : SD w0.heap.size w P d) (hb1 : Below w0.heap.size w0 w) (hO : Calls Tryd.prog 12 #[.pointer (some ⟨P, 0, none⟩)] w (OpenPost w P (.ok l))) (hr : Wl.rds l = []) (hl : l.fr.length ≤ 16777216) :
    Calls Tryd.prog 29 #[.pointer (some ⟨P, 0, none⟩)] w fun e w' => ∃ Q, e = .returned (.tuple #[.pointer (some ⟨Q, 0, none⟩), .int .i64 0]) ∧ NewPost w0 P d l Q w' := by
  have HO := Lib.hid hO
  have HD0 := Lib.hid hd
  have HB1 := Lib.hid hb1
  have HH := Lib.hid hH
  clear hO hd hb1 hH
  go_enter Tryd.func29, Tryd.ntmps29
  go_wp2_with fail
  refine HO.out.mono ?_
  intro e w2 hop
  have hbw : Below w.heap.size w w2 := hop.1
  obtain ⟨L, rfl, hsy, hb2⟩ := sy_new HD0.out HB1.out hop
  obtain ⟨wm, hwm⟩ : ∃ wm, wm = w2.alloc (.map #[] 0) := ⟨_, rfl⟩
  have hmk := run_makeMap (P := Tryd.prog) 109 w2
  rw [← hwm] at hmk
  have hbm : Below w2.heap.size w2 wm := by rw [hwm]; exact (Below.refl _ _).alloc (Nat.le_refl _) _
  have hT : TB wm w2.heap.size 0 (.map []) := by rw [hwm]; exact World.ownsMap_made w2 Tryd.prog 9 Kv.vR
  have hzm : w2.heap.size < wm.heap.size := hT.lt
  have hsm := hsy.keep hbm
  have HREC := Lib.hid (records_sy hsm (HH.out.next (hbw.trans (hbm.mono hbw.size))) hl)
  rw [hr] at HREC
  have HS := Lib.hid (And.intro hsm (And.intro hT (hb2.trans (hbm.mono hb2.size))))
  have hz2 := hb2.size
  clear hwm hop hbw hsy hb2 hbm hT hsm HO HD0 HB1 HH
  go_wp2_with fail
  refine HREC.out.mono ?_
  rintro _ w4 ⟨A4, c4, m4, rfl, hm4, hlc4, hb4⟩
  have hm0 : m4 = 0 := hm4
  subst hm0
  have hz4 := hb4.size
  have hsy4 := HS.out.1.keep hb4
  have hT4 := HS.out.2.1.below hb4
  have hb04 := HS.out.2.2.trans (hb4.mono (Nat.le_trans hz2 (Nat.le_of_lt hzm)))
  have HS4 := Lib.hid (And.intro hsy4 (And.intro hT4 hb04))
  clear hm4 hlc4 hb4 HREC HS hsy4 hT4 hb04 hmk
  go_wp2_with fail
  go_loopw [23] (fun iv wr => iv = .int .i64 0 ∧ wr = w4) (fun _ _ => 0)
  case atStart => exact ⟨rfl, rfl⟩
  case round =>
    obtain ⟨rfl, rfl⟩ := hrel
    go_wp2
    go_ret2
    have hba : Below wr.heap.size wr (wr.alloc (.cells #[.pointer (some ⟨L, 0, none⟩), .map (some w2.heap.size)] 111)) := (Below.refl _ _).alloc (Nat.le_refl _) _
    refine ⟨_, rfl, L, w2.heap.size, w2.heap.size, HS4.out.1.keep hba, heap_alloc_new wr _, HS4.out.2.1.below hba, ?_, Nat.le_refl _, ?_, hz2, HS4.out.2.2.trans (hba.mono ?_)⟩
    · omega
    · rw [World.size_alloc]; omega
    · omega

set_option maxHeartbeats 1600000 in
theorem kvMade24_any (w : World) (hH : Hs w) :
    Calls Tryd.prog 58 #[.int .u8 20] w fun e w' => ∃ P Q, e = .returned (.tuple #[.pointer (some ⟨P, 0, none⟩), .pointer (some ⟨Q, 0, none⟩)]) ∧ NewPost w P (Dk.new 24) ⟨0, 0, []⟩ Q w' := by
  have hinv : Wl.Inv 0 24 (Dk.new 24).kept ⟨0, 0, []⟩ := Wl.inv_new 0 (by decide) (by decide)
  have HNEW := Lib.hid (new_any w 24)
  obtain ⟨dn, hdn⟩ : ∃ dn, dn = Dk.new 24 := ⟨_, rfl⟩
  rw [← hdn] at HNEW hinv ⊢
  have hn24 : dn.n = 24 := by rw [hdn]; rfl
  have hst24 : dn.st = [] := by rw [hdn]; rfl
  have HH := Lib.hid hH
  have HI := Lib.hid hinv
  have hr0 : Wl.rds ⟨0, 0, []⟩ = [] := by rfl
  clear hdn hinv hH
  go_enter Tryd.func58, Tryd.ntmps58
  go_wp2_with fail
  refine HNEW.out.mono ?_
  intro e w1 hmade
  obtain ⟨P, rfl, hsd, hb1⟩ := hmade.sd
  have hop := walOpen_any w1 P dn (HH.out.next hb1) (hsd.base (Nat.zero_le _)) hst24
  rw [hn24, HI.out.openK] at hop
  have HKO := Lib.hid (kvOpen_empty w w1 P dn ⟨0, 0, []⟩ (HH.out.next hb1) hsd hb1 hop hr0 (by decide))
  clear hmade hsd hb1 hop HNEW
  go_wp2_with fail
  refine HKO.out.mono ?_
  rintro e w2 ⟨Q, rfl, hnp⟩
  have HNP := Lib.hid hnp
  clear hnp HKO
  go_wp2_with fail
  go_ret2
  exact ⟨P, Q, rfl, HNP.out⟩
end Go.Proofs.YtfceljbmdcbciaaDoor
namespace Go.Proofs.YtfceljbmdcbciaaDoor
set_option maxRecDepth 8000
open Go.RowKit

theorem encode_err {cs : List Kv.C} {k : Nat} (h : Kv.encode cs = .error k) : k = 1 ∨ k = 2 := by
  unfold Kv.encode at h
  split at h
  · split at h
    · injection h with h
      omega
    · cases h
  · injection h with h
    omega
set_option maxHeartbeats 1600000 in
theorem kvCommit_bad (w : World) (Q m c k : Nat) (A : Option Addr) (cs : List Kv.C) (hm : cs.length = m) (hc : ChIn w w.heap.size A cs) (hm2 : m ≤ 20000) (henc : Kv.encode cs = .error k) :
    Calls Tryd.prog 27 #[.pointer (some ⟨Q, 0, none⟩), .slice A m c] w fun e w' => e = .returned (.int .i64 (k : Int)) ∧ Below w.heap.size w w' := by
  have HEN := Lib.hid (kvEncode_any w A m c cs hm hc hm2)
  rw [henc] at HEN
  have hk := encode_err henc
  have hk0 : ¬ ((k : Int) = 0) := by omega
  clear henc hm hc hk
  go_enter Tryd.func27, Tryd.ntmps27
  go_wp2_with fail
  refine HEN.out.mono ?_
  rintro e w1 ⟨hb1, rfl⟩
  go_wp2_with fail
  go_ret
  exact ⟨rfl, hb1⟩
set_option maxHeartbeats 1600000 in
theorem kvCommit_none (w : World) (Q c : Nat) (A : Option Addr) :
    Calls Tryd.prog 27 #[.pointer (some ⟨Q, 0, none⟩), .slice A 0 c] w fun e w' => e = .returned (.int .i64 0) ∧ Below w.heap.size w w' := by
  have HEN := Lib.hid (kvEncode_any w A 0 c [] rfl (fun h => absurd h (Nat.lt_irrefl 0)) (by omega))
  have e0 : Kv.encode [] = .ok [] := rfl
  rw [e0] at HEN
  go_enter Tryd.func27, Tryd.ntmps27
  go_wp2_with fail
  refine HEN.out.mono ?_
  rintro e w1 ⟨hb1, A1, c1, rfl, _⟩
  go_wp2_with fail
  go_ret
  exact ⟨rfl, hb1⟩
end Go.Proofs.YtfceljbmdcbciaaDoor
