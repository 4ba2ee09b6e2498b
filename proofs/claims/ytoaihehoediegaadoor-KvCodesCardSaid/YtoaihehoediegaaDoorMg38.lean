/- Open of a disk without records, and the law's made. Condition: the table of sums reads as its text lays it. The chapter's example of stores comes out. Condition: the table of sums reads as its text lays it. -/
import Derived.Test.YtoaihehoediegaaDoorMg37
import Derived.Carry
namespace Go.Proofs.YtoaihehoediegaaDoor
set_option maxRecDepth 8000
open Go.RowKit

/-- A new store on a new disk: all its blocks are of the call's own. -/
def NewPost (w0 : World) (P : Nat) (d : Dk.D) (l : Wl.L) (Q : Nat) (w' : World) : Prop :=
  ∃ (L N : Nat), SK (fun x => w0.heap.size ≤ x ∧ x < N) w' P L Q d l 0 (.map []) ∧ N ≤ w'.heap.size ∧ w0.heap.size ≤ Q ∧ Below w0.heap.size w0 w'
set_option maxHeartbeats 1600000 in
theorem kvOpen_empty (w0 w : World) (P : Nat) (d : Dk.D) (l : Wl.L) (hH : Hs w) (hd : SD w0.heap.size w P d) (hb1 : Below w0.heap.size w0 w) (hO : Calls Tryd.prog 13 #[.pointer (some ⟨P, 0, none⟩)] w (OpenPost w P (.ok l))) (hr : Wl.rds l = []) (hl : l.fr.length ≤ 16777216) :
    Calls Tryd.prog 36 #[.pointer (some ⟨P, 0, none⟩)] w fun e w' => ∃ Q, e = .returned (.tuple #[.pointer (some ⟨Q, 0, none⟩), .int .i64 0]) ∧ NewPost w0 P d l Q w' := by
  have HO := Lib.hid hO
  have HD0 := Lib.hid hd
  have HB1 := Lib.hid hb1
  have HH := Lib.hid hH
  clear hO hd hb1 hH
  go_enter Tryd.func36, Tryd.ntmps36
  go_wp2_with fail
  refine HO.out.mono ?_
  intro e w2 hop
  have hbw : Below w.heap.size w w2 := hop.1
  obtain ⟨L, rfl, hsy, hb2⟩ := sy_new HD0.out HB1.out hop
  obtain ⟨wm, hwm⟩ : ∃ wm, wm = w2.alloc (.map #[] 0) := ⟨_, rfl⟩
  have hmk := run_makeMap (P := Tryd.prog) 117 w2
  rw [← hwm] at hmk
  have hbm : Below w2.heap.size w2 wm := by rw [hwm]; exact (Below.refl _ _).alloc (Nat.le_refl _) _
  have hT : TB wm w2.heap.size 0 (.map []) := by rw [hwm]; exact World.ownsMap_made w2 Tryd.prog 9 Kv.vR
  have hzm : w2.heap.size < wm.heap.size := hT.lt
  have hsm := hsy.keep hbm
  have HREC := Lib.hid (records_sy hsm (HH.out.next (hbw.trans (hbm.mono hbw.size))) hl)
  rw [hr] at HREC
  have HS := Lib.hid (And.intro hsm (And.intro hT (hb2.trans (hbm.mono hb2.size))))
  have hz2 := hb2.size
  clear hwm hop hbw hsy hb2 hbm hT hsm HO HD0 HB1 HH
  go_wp2_with fail
  refine HREC.out.mono ?_
  rintro _ w4 ⟨A4, c4, m4, rfl, hm4, hlc4, hb4⟩
  have hm0 : m4 = 0 := hm4
  subst hm0
  have hz4 := hb4.size
  have hsy4 := HS.out.1.keep hb4
  have hT4 := HS.out.2.1.below hb4
  have hb04 := HS.out.2.2.trans (hb4.mono (Nat.le_trans hz2 (Nat.le_of_lt hzm)))
  have HS4 := Lib.hid (And.intro hsy4 (And.intro hT4 hb04))
  clear hm4 hlc4 hb4 HREC HS hsy4 hT4 hb04 hmk
  go_wp2_with fail
  go_loopw [23] (fun iv wr => iv = .int .i64 0 ∧ wr = w4) (fun _ _ => 0)
  case atStart => exact ⟨rfl, rfl⟩
  case round =>
    obtain ⟨rfl, rfl⟩ := hrel
    go_wp2
    go_ret2
    have hba : Below wr.heap.size wr (wr.alloc (.cells #[.pointer (some ⟨L, 0, none⟩), .map (some w2.heap.size)] 119)) := (Below.refl _ _).alloc (Nat.le_refl _) _
    refine ⟨_, rfl, L, w2.heap.size, ⟨HS4.out.1.keep hba, w2.heap.size, heap_alloc_new wr _, HS4.out.2.1.below hba, ?_, ?_⟩, ?_, ?_, HS4.out.2.2.trans (hba.mono ?_)⟩
    · intro h; omega
    · intro h; omega
    · rw [World.size_alloc]; omega
    · omega
    · omega

set_option maxHeartbeats 1600000 in
theorem kvMade24_any (w : World) (hH : Hs w) :
    Calls Tryd.prog 64 #[.int .u8 20] w fun e w' => ∃ P Q, e = .returned (.tuple #[.pointer (some ⟨P, 0, none⟩), .pointer (some ⟨Q, 0, none⟩)]) ∧ NewPost w P (Dk.new 24) ⟨0, 0, []⟩ Q w' := by
  have hinv : Wl.Inv 0 24 (Dk.new 24).kept ⟨0, 0, []⟩ := Wl.inv_new 0 (by decide) (by decide)
  have HNEW := Lib.hid (new_any w 24)
  obtain ⟨dn, hdn⟩ : ∃ dn, dn = Dk.new 24 := ⟨_, rfl⟩
  rw [← hdn] at HNEW hinv ⊢
  have hn24 : dn.n = 24 := by rw [hdn]; rfl
  have hst24 : dn.st = [] := by rw [hdn]; rfl
  have HH := Lib.hid hH
  have HI := Lib.hid hinv
  have hr0 : Wl.rds ⟨0, 0, []⟩ = [] := by rfl
  clear hdn hinv hH
  go_enter Tryd.func64, Tryd.ntmps64
  go_wp2_with fail
  refine HNEW.out.mono ?_
  intro e w1 hmade
  obtain ⟨P, rfl, hsd, hb1⟩ := hmade.sd
  have hop := walOpen_any w1 P dn (HH.out.next hb1) (hsd.base (Nat.zero_le _)) hst24
  rw [hn24, HI.out.openK] at hop
  have HKO := Lib.hid (kvOpen_empty w w1 P dn ⟨0, 0, []⟩ (HH.out.next hb1) hsd hb1 hop hr0 (by decide))
  clear hmade hsd hb1 hop HNEW
  go_wp2_with fail
  refine HKO.out.mono ?_
  rintro e w2 ⟨Q, rfl, hnp⟩
  have HNP := Lib.hid hnp
  clear hnp HKO
  go_wp2_with fail
  go_ret2
  exact ⟨P, Q, rfl, HNP.out⟩
end Go.Proofs.YtoaihehoediegaaDoor
namespace Go.Proofs.YtoaihehoediegaaDoor
set_option maxRecDepth 8000
open Go.RowKit

theorem chin_one {w : World} {g : Nat} {x : Kv.C} {t : TypeId} {fr : Nat × Nat} (h : w.heap[g]? = some (.cells #[.string (S x.k), .string (S x.v), .bool x.g] t fr)) : ChIn w w.heap.size (some ⟨g, 0, none⟩) [x] := fun _ =>
  ⟨g, 0, rfl, (Array.getElem?_eq_some_iff.1 h).1, fun k hk => by
    have hk0 : k = 0 := by
      have : k < 1 := hk
      omega
    subst hk0
    exact ⟨(cell_of_row w g 0 _ _ _ h).trans rfl, (cell_of_row w g 1 _ _ _ h).trans rfl, (cell_of_row w g 2 _ _ _ h).trans rfl⟩⟩
theorem chin_two {w : World} {g : Nat} {x y : Kv.C} {t : TypeId} {fr : Nat × Nat} (h : w.heap[g]? = some (.cells #[.string (S x.k), .string (S x.v), .bool x.g, .string (S y.k), .string (S y.v), .bool y.g] t fr)) : ChIn w w.heap.size (some ⟨g, 0, none⟩) [x, y] := fun _ =>
  ⟨g, 0, rfl, (Array.getElem?_eq_some_iff.1 h).1, fun k hk => by
    have hk2 : k < 2 := hk
    rcases k with _ | _ | k
    · exact ⟨(cell_of_row w g 0 _ _ _ h).trans rfl, (cell_of_row w g 1 _ _ _ h).trans rfl, (cell_of_row w g 2 _ _ _ h).trans rfl⟩
    · exact ⟨(cell_of_row w g 3 _ _ _ h).trans rfl, (cell_of_row w g 4 _ _ _ h).trans rfl, (cell_of_row w g 5 _ _ _ h).trans rfl⟩
    · omega⟩
theorem valD_inj {a b : List UInt8} (h : Kv.valD a = Kv.valD b) : a = b := by
  unfold Kv.valD at h
  injection h with h
  injection h with h _
  injection h with h
  injection h
/-- A new store's first Commit. -/
theorem kvCommit_new {w0 w : World} {P Q m c : Nat} {d d' : Dk.D} {l l' : Wl.L} {A : Option Addr} {cs : List Kv.C} {b : List UInt8} (hH : Hs w0) (hz : 0 < w0.heap.size) {w1 : World} (h : NewPost w0 P d l Q w1) (hb : Below w1.heap.size w1 w)
    (hst : d.st = []) (h4 : 4 ≤ d.n) (hg : l.gen ≤ 262143) (ha : l.area ≤ 1) (hu : l.fr.length ≤ 8191) (hm : cs.length = m) (hc : ChIn w w.heap.size A cs) (h0 : 0 < m) (hm2 : m ≤ 20000) (henc : Kv.encode cs = .ok b) (happ : Wl.append d l b = (0, d', l')) :
    Calls Tryd.prog 34 #[.pointer (some ⟨Q, 0, none⟩), .slice A m c] w fun e w' => e = .returned (.int .i64 0) ∧ ∃ (F' : Nat → Prop) (L : Nat), SK F' w' P L Q d' l' m (Kv.chs (.map []) cs) ∧ (∀ x, F' x → x < w'.heap.size) ∧ (∀ x, F' x → w0.heap.size ≤ x) ∧ w0.heap.size ≤ Q ∧ Below w0.heap.size w0 w' := by
  obtain ⟨L, N, hsk, hN, hQ, hb0⟩ := h
  have hz1 := hb0.size
  have hzw := hb.size
  have hbw : Below w0.heap.size w0 w := hb0.trans (hb.mono hz1)
  refine (kvCommit_room (hH.next hbw) (hsk.keep hb) (fun x hx => by have := hx.2; omega) (fun hx => by have := hx.1; omega) hst h4 hg ha hu hm hc h0 hm2 (by omega) henc happ).mono ?_
  rintro e w' ⟨he, F', h1, h2, h3, h4⟩
  refine ⟨he, F', L, by rw [Nat.zero_add] at h1; exact h1, h2, fun x hx => ?_, hQ, hbw.trans (h4.below (base := w0.heap.size) (fun x hx => ?_) (by omega))⟩
  · rcases h3 x hx with hx | hx
    · exact hx.1
    · omega
  · rcases hx with hx | hx
    · exact hx.1
    · omega

set_option maxHeartbeats 3200000 in
theorem awake11_any (w : World) (hH : Hs w) (hz : 0 < w.heap.size) :
    Calls Tryd.prog 22 #[] w fun e w' => e = .returned (.bool true) ∧ Below w.heap.size w w' := by
  obtain ⟨d1, d2, hA1, hn1, hst1, hA2, hn2, hst2⟩ := Kv.ex_log
  obtain ⟨dn, hdn⟩ : ∃ dn, dn = Dk.new 24 := ⟨_, rfl⟩
  have HMD := Lib.hid (kvMade24_any w hH)
  rw [← hdn] at HMD hA1
  have hn24 : dn.n = 24 := by rw [hdn]; rfl
  have hst24 : dn.st = [] := by rw [hdn]; rfl
  have HH := Lib.hid hH
  have HI1 := Lib.hid (And.intro hA1 (And.intro hn1 hst1))
  have HI2 := Lib.hid (And.intro hA2 (And.intro hn2 hst2))
  have HDN := Lib.hid (And.intro hn24 hst24)
  clear hA1 hn1 hst1 hA2 hn2 hst2 hdn hn24 hst24 hH
  go_enter Tryd.func22, Tryd.ntmps22
  go_wp2_with fail
  refine HMD.out.mono ?_
  rintro e w1 ⟨P, Q, rfl, hnp⟩
  have hba : Below w1.heap.size w1 (w1.alloc (.cells #[.string (S [121]), .string (S [98]), .bool false] 54)) := (Below.refl _ _).alloc (Nat.le_refl _) _
  have hca := chin_one (x := ⟨[121], [98], false⟩) (heap_alloc_new w1 (.cells #[.string (S [121]), .string (S [98]), .bool false] 54))
  have HC1 := Lib.hid (kvCommit_new (c := 1) HH.out hz hnp hba HDN.out.2 (by rw [HDN.out.1]; decide) (by decide) (by decide) (by decide) (cs := Kv.exA) (m := 1) rfl hca (by decide) (by decide) Kv.ex_encA HI1.out.1)
  clear hnp hba hca HMD
  go_wp2_with fail
  refine HC1.out.mono ?_
  rintro e w2 ⟨rfl, F, L, hsk, hF1, hF2, hQ0, hb2⟩
  have hbb : Below w2.heap.size w2 (w2.alloc (.cells #[.string (S [120]), .string (S [97]), .bool false, .string (S [121]), .string (S []), .bool true] 54)) := (Below.refl _ _).alloc (Nat.le_refl _) _
  have hcb := chin_two (x := ⟨[120], [97], false⟩) (y := ⟨[121], [], true⟩) (heap_alloc_new w2 (.cells #[.string (S [120]), .string (S [97]), .bool false, .string (S [121]), .string (S []), .bool true] 54))
  have hz2 := hb2.size
  have hzb := hbb.size
  have hbw := hb2.trans (hbb.mono hz2)
  have HC2 := Lib.hid (kvCommit_room (c := 2) (HH.out.next hbw) (hsk.keep hbb) (fun x hx => Nat.lt_of_lt_of_le (hF1 x hx) hzb) (fun hx => by have := hF2 _ hx; omega) HI1.out.2.2 (by rw [HI1.out.2.1]; decide) (by decide) (by decide) (by rw [Fr.frame_len]; decide) (cs := Kv.exB) (m := 2) rfl hcb (by decide) (by decide) (by decide) Kv.ex_encB HI2.out.1)
  have HFF := Lib.hid (And.intro hF2 (And.intro hQ0 hbw))
  clear hsk hF1 hF2 hQ0 hb2 hbb hcb hbw HC1
  go_wp2_with fail
  refine HC2.out.mono ?_
  rintro e w3 ⟨rfl, F', hsk, hF1', hF2', ho⟩
  have hb3 : Below w.heap.size w w3 := HFF.out.2.2.trans (ho.below (base := w.heap.size) (fun x hx => by
    rcases hx with hx | hx
    · exact HFF.out.1 x hx
    · have := HFF.out.2.1; omega) (by omega))
  have HGX := Lib.hid (kvGet_any hsk [120] (by decide))
  have HGY := Lib.hid (fun (w' : World) (hb' : Below w3.heap.size w3 w') => kvGet_any (hsk.keep hb') [121] (by decide))
  have ex1 : Kv.chs (Kv.chs (.map []) Kv.exA) Kv.exB = Kv.exD := rfl
  rw [ex1] at HGX HGY
  rw [Kv.ex_x.1] at HGX
  simp only [Kv.ex_y] at HGY
  have HB3 := Lib.hid hb3
  clear hsk hF1' hF2' ho hb3 HC2 ex1
  go_wp2_with fail
  refine HGX.out.mono ?_
  rintro e w4 ⟨v, rfl, hv, hb4⟩
  have HG4 := Lib.hid (HGY.out w4 hb4)
  have hz3 := HB3.out.size
  have HB4 := Lib.hid (HB3.out.trans (hb4.mono hz3))
  have hz4 := HB4.out.size
  have hv97 : v = [97] := valD_inj (hv.symm.trans Kv.ex_x.2)
  subst hv97
  have hs97 : (S [97]).toList = [97] := by rw [Lib.toList_data]; rfl
  clear hv HGX HGY hb4
  go_wp2_with fail
  refine HG4.out.mono ?_
  rintro e w5 ⟨v5, rfl, _, hb5⟩
  have hb05 := HB4.out.trans (hb5.mono hz4)
  clear HG4
  go_wp2_with fail
  go_ret
  first
    | exact ⟨rfl, hb05⟩
    | exact ⟨ret_bool (by simp), hb05⟩
end Go.Proofs.YtoaihehoediegaaDoor
