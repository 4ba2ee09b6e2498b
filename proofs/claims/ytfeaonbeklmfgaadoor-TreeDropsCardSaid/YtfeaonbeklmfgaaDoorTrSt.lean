/- The call TreeStands answers true, for any room and any ops. Condition: the tables that the calls read hold what their texts lay there. -/
import Derived.Test.YtfeaonbeklmfgaaDoorTrK
namespace Go.Proofs.YtfeaonbeklmfgaaDoor
set_option maxRecDepth 8000
open Go.RowKit

theorem roomT_le (room : Int) : roomT room ≤ 64 := by unfold roomT; split <;> omega
theorem S_bne (a b : List UInt8) : ((S a).toList != (S b).toList) = !decide (a = b) := by unfold bne; rw [S_beq]
/-- What a path is: from a name, each one's parent behind it, up to one without a parent. -/
def PathOk (l : List Rk.R) (x : List UInt8) (P : List (List UInt8)) : Prop :=
  0 < P.length ∧ P.length ≤ l.length ∧ P[0]? = some x ∧ ∀ (j : Nat) (p : List UInt8), P[j]? = some p → Tr.has l p = true ∧ (j + 1 < P.length ↔ (getR l p).parent ≠ []) ∧ (∀ q, P[j + 1]? = some q → (getR l p).parent = q) ∧ (j + 1 = P.length → (getR l p).kind = 1 ∨ (getR l p).kind = 6)
theorem path_ok {m : Nat} {l : List Rk.R} (hg : Tr.Good m l) {x : List UInt8} (hx : Tr.pl l x < l.length) : PathOk l x (Tr.path l x) := by
  obtain ⟨h1, h2, h3⟩ := hg.pth_way l.length x hx hx
  have ht := fun j hj h hl => hg.path_top hx j hj h hl
  have e : Tr.pth l l.length x = Tr.path l x := rfl
  rw [e] at h1 h2 h3
  refine ⟨?_, by omega, h2, fun j p hp => ?_⟩
  · rcases Nat.eq_zero_or_pos (Tr.path l x).length with h | h
    · rw [List.getElem?_eq_none (by omega)] at h2; cases h2
    · exact h
  · obtain ⟨hj, rfl⟩ := List.getElem?_eq_some_iff.1 hp
    obtain ⟨k1, k2, k3⟩ := h3 j hj
    have hr : getR l (Tr.path l x)[j] = l[Tr.pl l (Tr.path l x)[j]] := by unfold getR; rw [dif_pos k1]
    rw [hr]
    refine ⟨Tr.has_iff.2 k1, k2, fun q hq => ?_, fun h => ht j hj k1 h⟩
    obtain ⟨hj1, rfl⟩ := List.getElem?_eq_some_iff.1 hq
    exact k3 hj1
set_option maxHeartbeats 6400000 in
theorem treeStands_any (room : Int) (A0 : Option Addr) (c0 : Nat) (os : List Tr.O) (w : World) (hE : EnvT w) (h0 : OIn w w.heap.size A0 os) (m0 : os.length ≤ 9223372036854775807) :
    Calls Tryd.prog 3 #[.int .i64 room, .slice A0 os.length c0] w fun e w' => e = .returned (.bool true) ∧ Below w.heap.size w w' := by
  have HAW := Lib.hid (awake14_any w hE)
  have HF0 := Lib.hid (fun (w' : World) (hb : Below w.heap.size w w') => fewT_any w' A0 c0 os (h0.next hb) m0)
  have HWK := Lib.hid (fun (hf : Tr.few os = true) (w' : World) (hb : Below w.heap.size w w') => walkedT_any room A0 c0 os (h0.next hb) hf (hE.next hb))
  obtain ⟨q0, hq0⟩ : ∃ q, q = Tr.few os := ⟨_, rfl⟩
  rw [← hq0] at HF0 HWK
  clear hE h0 m0 hq0
  go_enter Tryd.func3, Tryd.ntmps3
  go_wp2_with fail
  refine HAW.out.mono ?_
  rintro e w1 ⟨rfl, hb1⟩
  have HB1 := Lib.hid hb1
  clear hb1 HAW
  go_wp2_with fail
  refine (HF0.out w1 HB1.out).mono ?_
  rintro e w2 ⟨rfl, hb2⟩
  have HB2 := Lib.hid (HB1.out.trans (hb2.mono HB1.out.size))
  clear hb2 HF0 HB1
  cases q0 with
  | false =>
    go_wp2_with fail
    go_ret
    exact ⟨rfl, HB2.out⟩
  | true =>
  go_wp2_with fail
  refine (HWK.out (by trivial) w2 HB2.out).mono ?_
  rintro e w3 ⟨T, rfl, hT, hb3⟩
  have hrl := roomT_le room
  have HG := Lib.hid (Tr.Good.walk os (Tr.Good.nil (roomT room)))
  have HRM : Hid ((roomT room : Int) ≤ max 0 (min room 64)) := Lib.hid (by
    unfold roomT
    split <;> split <;> omega)
  obtain ⟨rm, hrm⟩ : ∃ rm, rm = roomT room := ⟨_, rfl⟩
  rw [← hrm] at hT HG hrl HRM
  clear hrm
  obtain ⟨L, hL⟩ : ∃ L, L = Tr.walk rm [] os := ⟨_, rfl⟩
  rw [← hL] at hT HG
  have hLl : L.length ≤ rm := HG.out.le
  have HB3 := Lib.hid (HB2.out.trans (hb3.mono HB2.out.size))
  have HAL := Lib.hid (all_any hT (by omega))
  have HT3 := Lib.hid hT
  clear hb3 hT hL HWK
  go_wp2_with fail
  refine HAL.out.mono ?_
  rintro e w4 ⟨v4, rfl, hr4, hb4⟩
  obtain ⟨A4, c4, rfl, hc4⟩ := hr4.form
  have HC4 := Lib.hid hc4
  have HB4 := Lib.hid (HB3.out.trans (hb4.mono HB3.out.size))
  have HT4 := Lib.hid (HT3.out.keep hb4)
  clear hr4 hc4 hb4 HAL
  have hcond : ¬ (max 0 (min room 64) < (L.length : Int)) := by have := HRM.out; omega
  go_wp2_with fail
  go_loopw [9] (fun iv wr => ∃ k : Nat, k ≤ L.length ∧ iv = .int .i64 k ∧ Below w4.heap.size w4 wr) (fun iv _ => L.length - (intOf iv).toNat)
  case atStart => exact ⟨0, Nat.zero_le _, rfl, Below.refl _ _⟩
  case round =>
    obtain ⟨k, hk, rfl, hb⟩ := hrel
    clear hcond
    by_cases hlt : k < L.length
    · obtain ⟨b, off, rfl, hbb, h6⟩ := HC4.out.at10 k hlt
      have hcn := (hb.cell (p := ⟨b, off + k * 10 + 1, none⟩) hbb).trans h6.c1
      have hpl := HG.out.pl_at hlt
      have HNK : Hid (∀ i (hi : i < L.length), i < k → L[i].name ≠ L[k].name) := Lib.hid (fun i hi hik e => by
        have h1 := HG.out.pl_at hi
        rw [e, hpl] at h1
        omega)
      have hkI : (k : Int) < (L.length : Int) := by omega
      have hk0 : (0 : Int) ≤ (k : Int) := by omega
      have HLT := Lib.hid hlt
      have hc1' := h6.c1
      generalize L[k].name = n at hcn hpl HNK hc1'
      have hx : Tr.pl L n < L.length := by omega
      have HPA := Lib.hid (path_any n HG.out (HT4.out.keep hb) (by omega))
      have hpok := path_ok HG.out hx
      generalize Tr.path L n = P at HPA hpok
      obtain ⟨hPl, hPL, hP0, hall⟩ := hpok
      have HALL := Lib.hid hall
      have HP0 := Lib.hid (show ∀ h : 0 < P.length, P[0] = n from fun h => by rw [List.getElem?_eq_getElem h] at hP0; exact Option.some.inj hP0)
      have HB := Lib.hid hb
      have HCN := Lib.hid hcn
      have HCN4 := Lib.hid hc1'
      clear h6 hP0 hall hx hlt hc1'
      go_wp2_with fail
      refine HPA.out.mono ?_
      rintro e w6 ⟨v, rfl, hs, hb6⟩
      obtain ⟨g, pc, rfl, hg6, hcell⟩ := SRow.open hs (by intro h; rw [h] at hPl; exact absurd hPl (by decide))
      have h00 := hcell 0 hPl
      rw [HP0.out hPl] at h00
      have hcn6 := (hb6.cell (p := ⟨b, off + k * 10 + 1, none⟩) (Nat.lt_of_lt_of_le hbb HB.out.size)).trans HCN.out
      have HCELL := Lib.hid (fun (w' : World) (h : Below w6.heap.size w6 w') (j : Nat) (hj : j < P.length) => ((h.cell (p := ⟨g, j, none⟩) hg6).trans (hcell j hj) : w'.cell? ⟨g, j, none⟩ = some (.string (S P[j]))))
      have HB6 := Lib.hid (HB.out.trans (hb6.mono HB.out.size))
      have d1 : ((P.length : Int) == 0) = false := beq_eq_false_iff_ne.2 (by omega)
      have d2 : ((S n).toList != (S n).toList) = false := by simp
      have d3 : decide ((L.length : Int) < (P.length : Int)) = false := decide_eq_false (by omega)
      have d4 : ¬ ((P.length : Int) = 0) := by omega
      have d5 : (0 : Int) < (P.length : Int) := by omega
      have d6 : decide (L.length < P.length) = false := decide_eq_false (by omega)
      have d7 : ¬ L.length < P.length := by omega
      have d8 : ¬ (L.length : Int) < (P.length : Int) := by omega
      clear hcell hs hb6 hcn hb HPA
      go_wp2_with fail
      go_quiet (fail)
      have HQ := Lib.hid (below_drewN (Below.refl w6.heap.size w6) nq)
      generalize w6.drewN nq = w7 at HQ ⊢
      clear h00 hcn6 d1 d2 d4 d5
      go_wp2_with fail
      go_loopw [11] (fun iv wq => ∃ j : Nat, j ≤ P.length ∧ iv = .int .i64 j ∧ Below w6.heap.size w6 wq) (fun iv _ => P.length - (intOf iv).toNat)
      case atStart => exact ⟨0, Nat.zero_le _, rfl, HQ.out⟩
      case round =>
        clear HQ
        obtain ⟨j, hj, rfl, hb⟩ := hrel
        by_cases hjl : j < P.length
        · have hcl := HCELL.out wr hb j hjl
          obtain ⟨hhas, hiff, hnext, hkind⟩ := HALL.out j P[j] (List.getElem?_eq_getElem hjl)
          have hget := get_any P[j] (HT4.out.keep (HB6.out.trans (hb.mono HB6.out.size))) (by omega)
          rw [hhas] at hget
          generalize getR L P[j] = r at hget hiff hnext hkind
          have hcl1 := fun (w' : World) (h : Below w6.heap.size w6 w') (h1 : j + 1 < P.length) => HCELL.out w' h (j + 1) h1
          have HNX := Lib.hid (fun h1 : j + 1 < P.length => (hnext P[j + 1] (List.getElem?_eq_getElem h1)))
          have HCL1 := Lib.hid hcl1
          unfold recV at hget
          have HGET := Lib.hid hget
          have HB := Lib.hid hb
          have HJL := Lib.hid hjl
          have HIF := Lib.hid hiff
          have HKD := Lib.hid hkind
          have hjI : (j : Int) < (P.length : Int) := by omega
          have hj0 : (0 : Int) ≤ (j : Int) := by omega
          generalize P[j] = p at hcl HGET
          clear hhas hiff hnext hkind hget hcl1 hb
          go_wp2_with fail
          refine HGET.out.mono ?_
          rintro e w8 ⟨rfl, hb8⟩
          have hba : Below w8.heap.size w8 (w8.alloc (.cells (recCs r) 32)) := (Below.refl _ _).alloc (Nat.le_refl _) _
          have hblk := heap_alloc_new w8 (.cells (recCs r) 32)
          have hb69 := (HB.out.trans (hb8.mono HB.out.size)).trans (hba.mono (Nat.le_trans HB.out.size hb8.size))
          unfold recCs at hblk hb69
          clear hba hb8 hcl HGET
          go_upto_region 21 with fail
          generalize w8.alloc (.cells #[.int .i64 r.kind, .string (S r.name), .string (S r.parent), .string (S r.user), .string (S r.service), .string (S r.url), .int .i64 r.made, .int .i64 r.used, .int .i64 r.uses, .bool r.fresh] 32) = w9 at hblk hb69 ⊢
          obtain ⟨c0, c1, c2, c3, c4, c5, c6, c7, c8, c9⟩ := recAt_blk hblk
          have HB9 := Lib.hid hb69
          have HBLK := Lib.hid hblk
          by_cases hj1 : j + 1 < P.length
          · have hc1 := HCL1.out w9 hb69 hj1
            have k1 : ((S r.parent).toList != []) = true := by rw [S_list]; simpa using HIF.out.1 hj1
            have hpe := S_empty r.parent
            rw [show r.parent.isEmpty = false from by simpa using HIF.out.1 hj1] at hpe
            have k2 : ((S r.parent).toList != (S P[j + 1]).toList) = false := by rw [HNX.out hj1]; simp
            have k2b : ((S r.parent).toList == (S P[j + 1]).toList) = true := by rw [HNX.out hj1]; simp
            have k3 : ((j : Int) + 1) < (P.length : Int) := by omega
            have k4 : decide (((j : Int) + 1) < (P.length : Int)) = true := decide_eq_true k3
            have k5 : (((j : Int) + 1) == (P.length : Int)) = false := beq_eq_false_iff_ne.2 (by omega)
            have k6 : (0 : Int) ≤ (j : Int) + 1 := by omega
            have k7 : ¬ ((j : Int) + 1 = (P.length : Int)) := by omega
            generalize P[j + 1] = pn at hc1 k2 k2b
            clear hblk hb69 hj1
            go_wp2_with fail
            go_quiet (fail)
            have HQ9 := Lib.hid (below_drewN HB9.out nq)
            generalize w9.drewN nq = w10 at HQ9 ⊢
            clear c0 c1 c2 c3 c4 c5 c6 c7 c8 c9 hc1
            go_wp2_with fail
            go_roundw
            case rel => exact ⟨j + 1, by have := HJL.out; omega, by go_num, HQ9.out⟩
            case measure => have := HJL.out; simp [intOf]; omega
          · have hpn : r.parent = [] := by
              by_cases h : r.parent = []
              · exact h
              · exact absurd (HIF.out.2 h) hj1
            have hjl2 : j + 1 = P.length := by have := HJL.out; omega
            have HK := Lib.hid (HKD.out hjl2)
            have k1 : ((S r.parent).toList != []) = false := by rw [S_list, hpn]; rfl
            have hpe := S_empty r.parent
            rw [show r.parent.isEmpty = true from by rw [hpn]; rfl] at hpe
            have k3 : ¬ (((j : Int) + 1) < (P.length : Int)) := by omega
            have k4 : decide (((j : Int) + 1) < (P.length : Int)) = false := decide_eq_false k3
            have k5 : (((j : Int) + 1) == (P.length : Int)) = true := beq_iff_eq.2 (by omega)
            clear hblk hb69 hj1 hpn hjl2
            go_wp2_with fail
            go_quiet (fail)
            have HQ9 := Lib.hid (below_drewN HB9.out nq)
            have hblk2 : (w9.drewN nq).heap[w8.heap.size]? = _ := HBLK.out
            generalize w9.drewN nq = w10 at HQ9 hblk2 ⊢
            clear c0 c1 c2 c3 c4 c5 c6 c7 c8 c9
            have c0 := cell_of_row w10 w8.heap.size 0 _ _ _ hblk2
            simp only [List.getElem?_toArray, List.getElem?_cons_zero] at c0
            clear hblk2
            rcases HK.out with hk1 | hk6
            · have k7 : (r.kind != 1) = false := by rw [hk1]; rfl
              clear hk1
              go_wp2_with fail
              go_roundw
              case rel => exact ⟨j + 1, by have := HJL.out; omega, by go_num, HQ9.out⟩
              case measure => have := HJL.out; simp [intOf]; omega
            · have k7 : (r.kind != 1) = true := by rw [hk6]; rfl
              have k8 : (r.kind != 6) = false := by rw [hk6]; rfl
              clear hk6
              go_wp2_with fail
              go_roundw
              case rel => exact ⟨j + 1, by have := HJL.out; omega, by go_num, HQ9.out⟩
              case measure => have := HJL.out; simp [intOf]; omega
        · have HB := Lib.hid hb
          clear hb
          go_wp2_with fail
          go_loopw [14] (fun iv wq => ∃ i : Nat, i ≤ k ∧ iv = .int .i64 i ∧ Below w6.heap.size w6 wq) (fun iv _ => k - (intOf iv).toNat)
          case atStart => exact ⟨0, Nat.zero_le _, rfl, HB.out⟩
          case round =>
            obtain ⟨i, hi, rfl, hb⟩ := hrel
            by_cases hik : i < k
            · have hiL : i < L.length := by have := HLT.out; omega
              obtain ⟨b', off', e, -, h6⟩ := HC4.out.at10 i hiL
              cases e
              have hb4 := HB6.out.trans (hb.mono HB6.out.size)
              have hci := (hb4.cell (p := ⟨b, off + i * 10 + 1, none⟩) hbb).trans h6.c1
              have hcn := (hb4.cell (p := ⟨b, off + k * 10 + 1, none⟩) hbb).trans HCN4.out
              have hne := HNK.out i hiL hik
              generalize L[i].name = ni at hci hne
              have k1 : ((S ni).toList == (S n).toList) = false := by rw [S_beq, decide_eq_false hne]
              have i1 : (i : Int) < (k : Int) := by omega
              have i2 : (i : Int) < (L.length : Int) := by omega
              have i0 : (0 : Int) ≤ (i : Int) := by omega
              have HI := Lib.hid hik
              have HB9 := Lib.hid hb
              clear h6 hb4 hne hb hiL hik
              go_wp2_with fail
              go_quiet (fail)
              have HQ9 := Lib.hid (below_drewN HB9.out nq)
              generalize wr.drewN nq = w10 at HQ9 ⊢
              clear hci hcn
              go_wp2_with fail
              go_roundw
              case rel => exact ⟨i + 1, by have := HI.out; omega, by go_num, HQ9.out⟩
              case measure => have := HI.out; simp [intOf]; omega
            · have HBF := Lib.hid (HB6.out.trans (hb.mono HB6.out.size))
              clear hb
              go_wp2_with fail
              go_roundw
              case rel => exact ⟨k + 1, by have := HLT.out; omega, by go_num, HBF.out⟩
              case measure => have := HLT.out; simp [intOf]; omega
    · go_wp2_with fail
      go_ret
      exact ⟨rfl, HB4.out.trans (hb.mono HB4.out.size)⟩
end Go.Proofs.YtfeaonbeklmfgaaDoor
