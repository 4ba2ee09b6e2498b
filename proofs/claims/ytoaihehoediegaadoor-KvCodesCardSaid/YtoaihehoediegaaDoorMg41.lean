/- Are two lists of changes one? No condition. Decode: the document's. Condition: at most 2^20 bytes. -/
import Derived.Test.YtoaihehoediegaaDoorMg07
import Derived.Deep.QuietTactic
import Derived.BigQuiet
import Derived.Test.YtoaihehoediegaaDoorMg39
import Derived.Test.YtoaihehoediegaaDoorMg40
namespace Go.Proofs.YtoaihehoediegaaDoor
set_option maxRecDepth 8000
open Go.RowKit

theorem Tryd.heldChange : Tryd.prog.stoodInHeld 54 = false := by kernel_rfl
theorem Tryd.guardChange : Tryd.prog.eqGuardType Tryd.prog.depth 54 = false := by kernel_rfl
theorem Tryd.fieldsChange : Tryd.prog.underlying 54 = some (.struct (Tryd.prog.fieldsOf 54)) := by kernel_rfl
theorem run_ne_change (w : World) (x y : Kv.C) : (binOp .neq 54 (.agg #[.string (S x.k), .string (S x.v), .bool x.g]) (.agg #[.string (S y.k), .string (S y.v), .bool y.g])).run Tryd.prog w = .ok (.bool (!decide (x = y))) w := by
  rw [run_neq_struct, run_equalIn_struct w 9999 _ _ _ Tryd.fieldsChange Tryd.heldChange]
  obtain ⟨a, b, c⟩ := x
  obtain ⟨a', b', c'⟩ := y
  have hS := S_list
  simp [Program.fieldsOf, Tryd.underlying54, Op.eqFields, go_sem, hS]
  by_cases h1 : a = a'
  · by_cases h2 : b = b'
    · by_cases h3 : c = c'
      · simp [h1, h2, h3]
      · simp [h1, h2, h3]
    · simp [h1, h2]
  · simp [h1]
set_option maxHeartbeats 3200000 in
theorem kvChanges_any (w : World) (A A' : Option Addr) (n n' c c' : Nat) (l l' : List Kv.C) (hn : l.length = n) (hn' : l'.length = n') (h : ChIn w w.heap.size A l) (h' : ChIn w w.heap.size A' l') (hl : n ≤ 1048576) :
    Calls Tryd.prog 27 #[.slice A n c, .slice A' n' c'] w fun e w' => e = .returned (.bool (decide (l = l'))) ∧ Below w.heap.size w w' := by
  by_cases hnn : n = n'
  · subst hnn
    have HN := Lib.hid hn
    have HN' := Lib.hid hn'
    have HL := Lib.hid h
    have HL' := Lib.hid h'
    clear hn hn' h h'
    go_enter Tryd.func27, Tryd.ntmps27
    go_wp2_with fail
    go_loopw [5] (fun iv wr => ∃ (k : Nat), k ≤ n ∧ iv = .int .i64 (k : Int) ∧ l.take k = l'.take k ∧ Below w.heap.size w wr) (fun iv _ => n - (intOf iv).toNat)
    case atStart => exact ⟨0, Nat.zero_le _, rfl, rfl, Below.refl _ _⟩
    case round =>
      obtain ⟨k, hk, rfl, htk, hb⟩ := hrel
      have HB := Lib.hid hb
      have HT := Lib.hid htk
      by_cases hlt : k < n
      · have hlk : k < l.length := by have := HN.out; omega
        have hlk' : k < l'.length := by have := HN'.out; omega
        obtain ⟨b, off, rfl, hbl, hc⟩ := HL.out (by omega)
        obtain ⟨b', off', rfl, hbl', hc'⟩ := HL'.out (by omega)
        obtain ⟨c0, c1, c2⟩ := hc k hlk
        obtain ⟨d0, d1, d2⟩ := hc' k hlk'
        replace c0 := (hb.cell (p := ⟨b, off + k * 3, none⟩) hbl).trans c0
        replace c1 := (hb.cell (p := ⟨b, off + k * 3 + 1, none⟩) hbl).trans c1
        replace c2 := (hb.cell (p := ⟨b, off + k * 3 + 2, none⟩) hbl).trans c2
        replace d0 := (hb.cell (p := ⟨b', off' + k * 3, none⟩) hbl').trans d0
        replace d1 := (hb.cell (p := ⟨b', off' + k * 3 + 1, none⟩) hbl').trans d1
        replace d2 := (hb.cell (p := ⟨b', off' + k * 3 + 2, none⟩) hbl').trans d2
        have hkI : (k : Int) < (n : Int) := by omega
        have hk0 : (0 : Int) ≤ (k : Int) := by omega
        have HGK := Lib.hid (⟨List.take_succ_eq_append_getElem hlk, List.take_succ_eq_append_getElem hlk'⟩ : l.take (k + 1) = l.take k ++ [l[k]] ∧ l'.take (k + 1) = l'.take k ++ [l'[k]])
        have HNE : Hid (l[k] ≠ l'[k] → l ≠ l') := Lib.hid (fun h1 e => h1 (by congr 1))
        obtain ⟨x, hx⟩ : ∃ x, x = l[k] := ⟨_, rfl⟩
        obtain ⟨y, hy⟩ : ∃ y, y = l'[k] := ⟨_, rfl⟩
        rw [← hx] at c0 c1 c2 HGK HNE
        rw [← hy] at d0 d1 d2 HGK HNE
        have hneq := fun w' : World => run_ne_change w' x y
        have hgd := fun w' : World => run_eqGuard_agg (P := Tryd.prog) w' .neq 54 (.tmp 20) (.tmp 24) #[.string (S x.k), .string (S x.v), .bool x.g] #[.string (S y.k), .string (S y.v), .bool y.g] Tryd.guardChange
        clear hx hy hc hc' hb htk hlk hlk' hbl hbl'
        by_cases hq : x = y
        · rw [decide_eq_true hq] at hneq
          have HQ := Lib.hid hq
          clear hq
          go_wp2_with fail
          go_quiet (fail)
          go_wp2_with fail
          go_roundw
          case rel => exact ⟨k + 1, by omega, by go_num, by rw [HGK.out.1, HGK.out.2, HT.out, HQ.out], below_drewN HB.out _⟩
          case measure => simp [intOf]; omega
        · rw [decide_eq_false hq] at hneq
          have HQ : Hid (decide (l = l') = false) := Lib.hid (decide_eq_false (HNE.out hq))
          clear hq
          go_wp2_with fail
          go_quiet (fail)
          go_wp2_with fail
          go_ret
          rw [HQ.out]
          exact ⟨rfl, below_drewN HB.out _⟩
      · have hkI : ¬ (k : Int) < (n : Int) := by omega
        have HE : Hid (decide (l = l') = true) := Lib.hid (decide_eq_true (by
          rw [List.take_of_length_le (by have := HN.out; omega), List.take_of_length_le (by have := HN'.out; omega)] at htk
          exact htk))
        clear hb htk
        go_wp2_with fail
        go_ret
        rw [HE.out]
        exact ⟨rfl, HB.out⟩
  · have hnI : ¬ (n : Int) = (n' : Int) := by omega
    have HE : Hid (decide (l = l') = false) := Lib.hid (decide_eq_false (fun e => hnn (by rw [← hn, ← hn', e])))
    clear hn hn' h h' hnn
    go_enter Tryd.func27, Tryd.ntmps27
    go_wp2_with fail
    go_ret
    rw [HE.out]
    exact ⟨rfl, Below.refl _ _⟩
end Go.Proofs.YtoaihehoediegaaDoor
namespace Go.Proofs.YtoaihehoediegaaDoor
set_option maxRecDepth 8000
open Go.RowKit

/-- What is found behind the size: a change that is begun, in memory. -/
def CutC (wr : World) (t : List UInt8) (n e1 x0 : Nat) (key rest : List UInt8) (sv : Value) (wx : World) : Prop :=
  ∃ (g : Bool) (sz : Nat), sv = .int .i64 (sz : Int) ∧ sz ≤ 65535 ∧ Kv.first t = (if n < e1 + sz then none else some (⟨key, rest.take sz, g⟩, x0 + 3 + sz)) ∧
    wx.heap[wr.heap.size]? = some (.cells #[.string (S key), .string ⟨#[]⟩, .bool g] 54 (0, 0)) ∧ Below wr.heap.size wr wx ∧ wr.heap.size < wx.heap.size
theorem blk3 {w : World} {b : Nat} {x y z : Value} {t : TypeId} (h : w.heap[b]? = some (.cells #[x, y, z] t (0, 0))) :
    w.cell? ⟨b, 0, none⟩ = some x ∧ w.cell? ⟨b, 1, none⟩ = some y ∧ w.cell? ⟨b, 2, none⟩ = some z ∧ w.frozen? ⟨b, 1, none⟩ = false ∧ w.frozen? ⟨b, 2, none⟩ = false :=
  ⟨cell_of_row w b 0 _ _ _ h, cell_of_row w b 1 _ _ _ h, cell_of_row w b 2 _ _ _ h, by simp [World.frozen?, h], by simp [World.frozen?, h]⟩
set_option maxHeartbeats 3200000 in
theorem kvRefDecode_any (w : World) (A : Option Addr) (n c : Nat) (l : List UInt8) (hn : l.length = n) (hb : BCells w w.heap.size A l) (hc : n ≤ c) (hcm : c ≤ 9223372036854775807) (hl : n ≤ 1048576) :
    Calls Tryd.prog 26 #[.slice A n c] w (DecP w (Kv.decode l)) := by
  have HN := Lib.hid hn
  have HW := Lib.hid hb
  clear hb hn
  go_enter Tryd.func26, Tryd.ntmps26
  go_wp2_with fail
  go_loopw [4, 5] (fun ov iv wr => ∃ (k : Nat) (acc : List Kv.C) (A2 : Option Addr) (m2 c2 : Nat), ov = .slice A2 m2 c2 ∧ iv = .int .i64 (k : Int) ∧ m2 = acc.length ∧ k ≤ n ∧ Kv.Run l k acc ∧ acc.length ≤ k ∧ ChRow w.heap.size wr ov acc ∧ Below w.heap.size w wr) (fun _ iv _ => n - (intOf iv).toNat)
  case atStart => exact ⟨0, [], none, 0, 0, rfl, rfl, rfl, Nat.zero_le _, Kv.Run.start l, Nat.le_refl _, World.ownsRow_nil _ _ _ _, Below.refl _ _⟩
  case round =>
    obtain ⟨k, acc, A2, m2, c2, rfl, rfl, hm2, hkn, hrun, hal, hrow, hb⟩ := hrel
    have HB := Lib.hid hb
    have HROW := Lib.hid hrow
    have HM2 := Lib.hid hm2
    have HRUN := Lib.hid hrun
    have hll := HN.out
    by_cases hlt : k < n
    · have hltI : (k : Int) < (n : Int) := by omega
      have hk0 : (0 : Int) ≤ (k : Int) := by omega
      obtain ⟨bb, off, rfl, hbb, hcl⟩ := HW.out (by omega)
      have hkl : k < l.length := by omega
      have HKL := Lib.hid hkl
      obtain ⟨x0, hx0⟩ : ∃ x : Nat, x = l[k].toNat := ⟨_, rfl⟩
      have h256 : x0 < 256 := by rw [hx0]; exact UInt8.toNat_lt _
      have c0 := hcl k hkl
      rw [show Go.Proofs.YtoaihehoediegaaDoor.B l[k] = .int .u8 (x0 : Int) by rw [hx0]] at c0
      replace c0 := (hb.cell (p := ⟨bb, off + k, none⟩) hbb).trans c0
      have hdl : (l.drop k).length = n - k := by rw [List.length_drop]; omega
      have hg0 : ((l.drop k).getD 0 0).toNat = x0 := by rw [hx0]; simp only [List.getD, List.getElem?_drop]; rw [Nat.add_zero, List.getElem?_eq_getElem hkl]; rfl
      obtain ⟨k3, hk3⟩ : ∃ q, q = k + 3 := ⟨_, rfl⟩
      obtain ⟨e1, he1⟩ : ∃ q, q = k + 3 + x0 := ⟨_, rfl⟩
      have w1 : IntKind.i64.wrap ((k : Int) + 3) = (k3 : Int) := by rw [IntWalk.i64_in _ (by omega)]; omega
      have w2 : IntKind.i64.wrap ((k3 : Int) + (x0 : Int)) = (e1 : Int) := by rw [IntWalk.i64_in _ (by omega)]; omega
      by_cases hne : n < e1
      · have hneI : (n : Int) < (e1 : Int) := by omega
        have HE : Hid (Kv.decode l = .error 8) := Lib.hid (by
          have hf : Kv.first (l.drop k) = none := by unfold Kv.first; rw [hg0, if_pos (by omega)]
          unfold Kv.decode
          rw [hrun.none_first hkl hf]
          split <;> rfl)
        clear hb hrow hm2 hrun hcl hkl hx0 hdl hg0 hk3 he1 hll
        go_wp2_with fail
        go_ret2
        rw [HE.out]
        exact ⟨HB.out, rfl⟩
      · have hneI : ¬ (n : Int) < (e1 : Int) := by omega
        obtain ⟨k1, hk1⟩ : ∃ q, q = k + 1 := ⟨_, rfl⟩
        obtain ⟨k2, hk2⟩ : ∃ q, q = k + 2 := ⟨_, rfl⟩
        obtain ⟨ke, hke⟩ : ∃ q, q = k + 1 + x0 := ⟨_, rfl⟩
        obtain ⟨kf, hkf⟩ : ∃ q, q = k + 2 + x0 := ⟨_, rfl⟩
        have w3 : IntKind.i64.wrap ((k : Int) + 1) = (k1 : Int) := by rw [IntWalk.i64_in _ (by omega)]; omega
        have w4 : IntKind.i64.wrap ((k1 : Int) + (x0 : Int)) = (ke : Int) := by rw [IntWalk.i64_in _ (by omega)]; omega
        have w5 : IntKind.i64.wrap ((k : Int) + 2) = (k2 : Int) := by rw [IntWalk.i64_in _ (by omega)]; omega
        have w6 : IntKind.i64.wrap ((k2 : Int) + (x0 : Int)) = (kf : Int) := by rw [IntWalk.i64_in _ (by omega)]; omega
        obtain ⟨x1, hx1⟩ : ∃ x : Nat, x = (l[ke]'(by omega)).toNat := ⟨_, rfl⟩
        obtain ⟨x2, hx2⟩ : ∃ x : Nat, x = (l[kf]'(by omega)).toNat := ⟨_, rfl⟩
        have h1 : x1 < 256 := by rw [hx1]; exact UInt8.toNat_lt _
        have h2 : x2 < 256 := by rw [hx2]; exact UInt8.toNat_lt _
        obtain ⟨Bk, hBk⟩ : ∃ q, q = wr.heap.size := ⟨_, rfl⟩
        obtain ⟨key, hkey⟩ : ∃ key, key = (l.drop k1).take x0 := ⟨_, rfl⟩
        have hkl2 : key.length = x0 := by rw [hkey, List.length_take, List.length_drop]; omega
        obtain ⟨wa, hwa⟩ : ∃ wa, wa = wr.alloc (.cells #[.string (S key), .string ⟨#[]⟩, .bool false] 54) := ⟨_, rfl⟩
        have hba : Below wr.heap.size wr wa := by rw [hwa]; exact (Below.refl _ _).alloc (Nat.le_refl _) _
        have hbwa := hb.trans (hba.mono hb.size)
        have d1 := hcl ke (by omega)
        have d2 := hcl kf (by omega)
        rw [show Go.Proofs.YtoaihehoediegaaDoor.B (l[ke]'(by omega)) = .int .u8 (x1 : Int) by rw [hx1]] at d1
        rw [show Go.Proofs.YtoaihehoediegaaDoor.B (l[kf]'(by omega)) = .int .u8 (x2 : Int) by rw [hx2]] at d2
        replace d1 := (hbwa.cell (p := ⟨bb, off + ke, none⟩) hbb).trans d1
        replace d2 := (hbwa.cell (p := ⟨bb, off + kf, none⟩) hbb).trans d2
        have hcv := bin_string wr (some ⟨bb, off + k1, none⟩) key (c - k1) (by rw [hkey]; exact sub_cells (HW.out.next hb))
        rw [hkl2] at hcv
        obtain ⟨y1, hy1⟩ : ∃ y, y = 256 * x1 := ⟨_, rfl⟩
        obtain ⟨N, hN⟩ : ∃ N, N = 256 * x1 + x2 := ⟨_, rfl⟩
        have w7 : IntKind.i64.wrap (256 * (x1 : Int)) = (y1 : Int) := by rw [IntWalk.i64_in _ (by omega)]; omega
        have w8 : IntKind.i64.wrap ((y1 : Int) + (x2 : Int)) = (N : Int) := by rw [IntWalk.i64_in _ (by omega)]; omega
        have hg1 : ((l.drop k).getD (x0 + 1) 0).toNat = x1 := by rw [hx1]; simp only [List.getD, List.getElem?_drop]; rw [show k + (x0 + 1) = ke by omega, List.getElem?_eq_getElem (by omega)]; rfl
        have hg2 : ((l.drop k).getD (x0 + 2) 0).toNat = x2 := by rw [hx2]; simp only [List.getD, List.getElem?_drop]; rw [show k + (x0 + 2) = kf by omega, List.getElem?_eq_getElem (by omega)]; rfl
        have HF : Hid (Kv.first (l.drop k) = if N = 65535 then some (⟨key, [], true⟩, x0 + 3) else if n < e1 + N then none else some (⟨key, (l.drop e1).take N, false⟩, x0 + 3 + N)) := Lib.hid (by
          unfold Kv.first
          rw [hg0, if_neg (by omega), hg1, hg2, ← hN, hdl, List.drop_drop, List.drop_drop, ← hk1, ← hkey, show k + (x0 + 3) = e1 by omega]
          by_cases h5 : N = 65535
          · rw [if_pos h5, if_pos h5]
          · rw [if_neg h5, if_neg h5]
            by_cases h6 : n < e1 + N
            · rw [if_pos h6, if_pos (by omega)]
            · rw [if_neg h6, if_neg (by omega)])
        have j1 : (k1 : Int) ≤ (ke : Int) := by omega
        have j2 : (ke : Int) ≤ (c : Int) := by omega
        have j3 : (0 : Int) ≤ (k1 : Int) := by omega
        have j4 : ke - k1 = x0 := by omega
        have j5 : ¬ c - k1 = 0 := by omega
        have j6 : ¬ c = k1 := by omega
        have j7 : (ke : Int) < (n : Int) := by omega
        have j8 : (kf : Int) < (n : Int) := by omega
        have j9 : (0 : Int) ≤ (ke : Int) := by omega
        have j10 : (0 : Int) ≤ (kf : Int) := by omega
        have hlta : wr.heap.size < wa.heap.size := by simp [hwa]
        have e0 : wa.heap[wr.heap.size]? = some (.cells #[.string (S key), .string ⟨#[]⟩, .bool false] 54 (0, 0)) := by rw [hwa]; exact heap_alloc_new wr _
        have HFR := Lib.hid e0
        have HBA := Lib.hid (⟨hba, hlta⟩ : Below wr.heap.size wr wa ∧ wr.heap.size < wa.heap.size)
        clear e0 hlta
        have HE1 := Lib.hid he1
        have HK := Lib.hid (⟨hk1, hke, hN⟩ : k1 = k + 1 ∧ ke = k + 1 + x0 ∧ N = 256 * x1 + x2)
        clear hb hrow hm2 hrun hcl hkl hx0 hdl hg0 hk3 he1 hll hk1 hk2 hke hkf hx1 hx2 hkey hkl2 hba hbwa hy1 hN hg1 hg2 hne hBk
        go_upto_region 8 with fail
        rw [← hwa]
        clear hwa hcv
        go_quiet (fail)
        obtain ⟨wd, hwd⟩ : ∃ wd, wd = wa.drewN nq := ⟨_, rfl⟩
        rw [← hwd]
        have hblk : wd.heap[wr.heap.size]? = some (.cells #[.string (S key), .string ⟨#[]⟩, .bool false] 54 (0, 0)) := by rw [hwd]; exact HFR.out
        have HBLK := Lib.hid hblk
        obtain ⟨f0, f1, f2, z1, z2⟩ := blk3 hblk
        have HBD : Hid (Below wr.heap.size wr wd ∧ wr.heap.size < wd.heap.size) := Lib.hid (by rw [hwd]; exact ⟨below_drewN HBA.out.1 nq, HBA.out.2⟩)
        clear hwd hblk
        go_upto_if 59 with fail
        go_cut [8] (fun sv wx => CutC wr (l.drop k) n e1 x0 key (l.drop e1) sv wx)
        case first =>
          by_cases hg : N = 65535
          · have i2 : (N : Int) = 65535 := by omega
            go_wp2_with fail
            go_meet
            refine ⟨true, 0, rfl, by omega, ?_, ?_, HBD.out.1.setCell (p := ⟨wr.heap.size, 2, none⟩) (Nat.le_refl _) _, (Array.getElem?_eq_some_iff.1 (heap_setCell_same _ _ _ _ _ _ HBLK.out)).1⟩
            · rw [HF.out, if_pos hg, if_neg (by omega)]; rfl
            · exact heap_setCell_same _ _ _ _ _ _ HBLK.out
          · have i2 : ¬ (N : Int) = 65535 := by omega
            go_wp2_with fail
            go_meet
            refine ⟨false, N, rfl, ?_, ?_, HBLK.out, HBD.out.1, HBD.out.2⟩
            · have := HK.out.2.2; omega
            · rw [HF.out, if_neg hg]
        case rest =>
        obtain ⟨wx, rfl⟩ : ∃ q, q = wc := ⟨_, rfl⟩
        obtain ⟨g, sz, rfl, hsz, hfst, hbk, hbx, hltx⟩ := hcut
        obtain ⟨e2, he2⟩ : ∃ q, q = e1 + sz := ⟨_, rfl⟩
        rw [← he2] at hfst
        have hE1 := HE1.out
        have hL := HN.out
        have w9 : IntKind.i64.wrap ((e1 : Int) + (sz : Int)) = (e2 : Int) := by rw [IntWalk.i64_in _ (by omega)]; omega
        have HBX := Lib.hid hbx
        have HLTX := Lib.hid hltx
        have HBK := Lib.hid hbk
        by_cases hn2 : n < e2
        · have hn2I : (n : Int) < (e2 : Int) := by omega
          have HE : Hid (Kv.decode l = .error 8) := Lib.hid (by
            rw [if_pos hn2] at hfst
            unfold Kv.decode
            rw [HRUN.out.none_first HKL.out hfst]
            split <;> rfl)
          clear hfst hbx hltx hbk he2 hE1 hL
          go_wp2_with fail
          go_ret2
          rw [HE.out]
          exact ⟨HB.out.trans (HBX.out.mono HB.out.size), rfl⟩
        · have hn2I : ¬ (n : Int) < (e2 : Int) := by omega
          rw [if_neg hn2] at hfst
          obtain ⟨val, hval⟩ : ∃ val, val = (l.drop e1).take sz := ⟨_, rfl⟩
          have hvl : val.length = sz := by rw [hval, List.length_take, List.length_drop]; omega
          rw [← hval] at hfst
          have HFST := Lib.hid hfst
          have HVL := Lib.hid hvl
          have HVAL := Lib.hid hval
          have HE2 := Lib.hid he2
          have hbcx : BCells wx wx.heap.size (some ⟨bb, off, none⟩) l := HW.out.next (HB.out.trans (hbx.mono HB.out.size))
          obtain ⟨q0, q1, q2, z1, z2⟩ := blk3 hbk
          have r1 : (e1 : Int) ≤ (e2 : Int) := by omega
          have r2 : (e2 : Int) ≤ (c : Int) := by omega
          have r3 : (0 : Int) ≤ (e1 : Int) := by omega
          have r4 : e2 - e1 = sz := by omega
          clear hfst hbx hltx hbk hE1 hL
          go_upto_region 15 with fail
          go_cut [8] (fun sv wy => sv = .int .i64 (sz : Int) ∧ wy = wx.setCell ⟨wr.heap.size, 1, none⟩ (.string (S val)))
          case first =>
            by_cases hce : c - e1 = 0
            · have s0 : sz = 0 := by omega
              have s1 : e2 = e1 := by omega
              have s2 : c = e1 := by omega
              have hv0 : val = [] := List.eq_nil_of_length_eq_zero (hvl.trans s0)
              have hcv2 := bin_string wx (some ⟨bb, off, none⟩) [] 0 (fun h => absurd h (by simp))
              rw [List.length_nil, ← hv0] at hcv2
              subst s0 s1 s2
              clear hval hvl hv0 hce hbcx he2
              go_wp2_with fail
              go_meet
              exact ⟨rfl, rfl⟩
            · have hcv2 := bin_string wx (some ⟨bb, off + e1, none⟩) val (c - e1) (by rw [hval]; exact sub_cells hbcx)
              rw [hvl] at hcv2
              have s3 : ¬ c = e1 := by omega
              clear hval hvl hbcx he2
              go_wp2_with fail
              go_meet
              exact ⟨rfl, rfl⟩
          case rest =>
          obtain ⟨wy, rfl⟩ : ∃ q, q = wc := ⟨_, rfl⟩
          obtain ⟨rfl, hwy⟩ := hcut
          have hbv : wy.heap[wr.heap.size]? = some (.cells #[.string (S key), .string (S val), .bool g] 54 (0, 0)) := by rw [hwy]; exact heap_setCell_same _ _ _ _ _ _ HBK.out
          have hby : Below wr.heap.size wr wy := by rw [hwy]; exact HBX.out.setCell (p := ⟨wr.heap.size, 1, none⟩) (Nat.le_refl _) _
          have hlty : wr.heap.size < wy.heap.size := (Array.getElem?_eq_some_iff.1 hbv).1
          clear hwy q0 q1 q2 z1 z2 hval hvl hbcx he2
          have HCX : Hid (∀ w', Below wy.heap.size wy w' → w'.cell? ⟨wr.heap.size, 0, none⟩ = some (.string (S key)) ∧ w'.cell? ⟨wr.heap.size, 1, none⟩ = some (.string (S val)) ∧ w'.cell? ⟨wr.heap.size, 2, none⟩ = some (.bool g)) := Lib.hid (fun w' hb' => by
            have e := (hb'.block _ hlty).trans hbv
            exact ⟨cell_of_row w' _ 0 _ _ _ e, cell_of_row w' _ 1 _ _ _ e, cell_of_row w' _ 2 _ _ _ e⟩)
          have HRT : Hid (Calls Tryd.prog 68 #[.agg #[.string (S key), .string (S val), .bool g]] wy fun e w' => e = .returned (.bool (Kv.right ⟨key, val, g⟩)) ∧ Below wy.heap.size wy w') := Lib.hid (kvRef_right_any wy ⟨key, val, g⟩)
          have HBY := Lib.hid hby
          obtain ⟨g0, g1, g2⟩ := HCX.out wy (Below.refl _ _)
          clear hby hlty hbv
          go_wp2_with fail
          refine HRT.out.mono ?_
          rintro _ wz ⟨rfl, hbz⟩
          have hbrz := HBY.out.trans (hbz.mono HBY.out.size)
          have HBZ := Lib.hid (HB.out.trans (hbrz.mono HB.out.size))
          have HROWZ : Hid (ChRow w.heap.size wz (.slice A2 m2 c2) acc) := Lib.hid (own_below HROW.out hbrz)
          obtain ⟨p0, p1, p2⟩ := HCX.out wz hbz
          clear g0 g1 g2 hbz hbrz HRT
          cases hr : Kv.right ⟨key, val, g⟩ with
          | false =>
            have HE : Hid (Kv.decode l = .error 8) := Lib.hid (by
              unfold Kv.decode
              rw [HRUN.out.none_right HKL.out HFST.out hr]
              split <;> rfl)
            clear hr
            go_wp2_with fail
            go_ret2
            rw [HE.out]
            exact ⟨HBZ.out, rfl⟩
          | true =>
            have HNX := Lib.hid (HRUN.out.next HKL.out HFST.out hr)
            clear hr
            go_wp2_with (at_builtin; refine wpList_change rfl (.tmp 82) (.tmp 84) w.heap.size wz.heap.size (.slice A2 m2 c2) acc ⟨key, val, g⟩ rfl rfl rfl (World.ownsRow.alloc HROWZ.out _) (heap_alloc_new wz _) (by omega) (HBZ.out.alloc HBZ.out.size _).size ?_; intro gg cap w6 hown6 hb6)
            go_roundw
            case rel => exact ⟨e2, acc ++ [⟨key, val, g⟩], _, acc.length + 1, cap, rfl, by go_num, by simp, by omega, by
              have h9 := HNX.out
              rwa [show k + (x0 + 3 + sz) = e2 by have := HE1.out; have := HE2.out; omega] at h9, by rw [List.length_append, List.length_singleton]; have := HE1.out; have := HE2.out; omega, hown6, (HBZ.out.alloc HBZ.out.size _).trans hb6⟩
            case measure => have := HE1.out; have := HE2.out; simp [intOf]; omega
    · have hltI : ¬ (k : Int) < (n : Int) := by omega
      have hkl : k = l.length := by omega
      rw [hkl] at hrun
      have hdn := hrun.done
      clear hb hrow hm2 hrun
      by_cases h4 : 4000 < n
      · have h4I : (4000 : Int) < (n : Int) := by omega
        have HE : Hid (Kv.decode l = .error 8) := Lib.hid (by unfold Kv.decode; rw [if_pos (by omega)])
        clear hll hkl hdn
        go_wp2_with fail
        go_ret2
        rw [HE.out]
        exact ⟨HB.out, rfl⟩
      · have h4I : ¬ (4000 : Int) < (n : Int) := by omega
        have HE : Hid (Kv.decode l = .ok acc) := Lib.hid (by unfold Kv.decode; rw [if_neg (by omega), hdn])
        clear hll hkl hdn
        go_wp2_with fail
        go_ret2
        rw [HE.out]
        exact ⟨HB.out, A2, c2, by rw [← HM2.out]; rfl, by rw [← HM2.out]; exact HROW.out⟩
end Go.Proofs.YtoaihehoediegaaDoor
