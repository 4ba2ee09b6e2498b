/- The call TreeDrops answers true, for any room, any ops, and whichever one is dropped. Condition: the tables that the calls read hold what their texts lay there. -/
import Derived.Test.YtfeaonbeklmfgaaDoorTrSt
import Derived.Test.YtfeaonbeklmfgaaDoorTrCo
namespace Go.Proofs.YtfeaonbeklmfgaaDoor
set_option maxRecDepth 8000
open Go.RowKit

theorem u8_natT {z : Int} (h : (Lit.int .u8 z).wf = true) : ∃ n : Nat, z = n ∧ n < 256 := by
  have e1 : IntKind.u8.min = 0 := by decide
  have e2 : IntKind.u8.max = 255 := by decide
  simp [Lit.wf] at h
  rw [e1, e2] at h
  exact ⟨z.toNat, by omega, by omega⟩
set_option maxHeartbeats 800000 in
theorem in_any (A : Option Addr) (cap : Nat) (ls : List (List UInt8)) (s : List UInt8) (w : World) (hc : SCells w w.heap.size A ls) (hl : ls.length ≤ 1048576) :
    Calls Tryd.prog 14 #[.slice A ls.length cap, .string (S s)] w fun e w' => e = .returned (.bool (decide (s ∈ ls))) ∧ w = w' := by
  have HC := Lib.hid hc
  clear hc
  go_enter Tryd.func14, Tryd.ntmps14
  go_wp2_with fail
  go_loopw [5] (fun i wr => ∃ k : Nat, k ≤ ls.length ∧ i = .int .i64 k ∧ (∀ j (hj : j < ls.length), j < k → ls[j] ≠ s) ∧ w = wr) (fun i _ => ls.length - (intOf i).toNat)
  case atStart => exact ⟨0, Nat.zero_le _, rfl, fun j _ hj => absurd hj (by omega), rfl⟩
  case round =>
    obtain ⟨k, hk, rfl, hall, rfl⟩ := hrel
    have HALL := Lib.hid hall
    clear hall
    by_cases hlt : k < ls.length
    · obtain ⟨b, off, rfl, -, hcc⟩ := HC.out (by omega)
      have hx := hcc k hlt
      have n0 : (0 : Int) ≤ (k : Int) := by omega
      have n1 : (k : Int) < (ls.length : Int) := by omega
      obtain ⟨x, hxx⟩ : ∃ x, x = ls[k] := ⟨_, rfl⟩
      rw [← hxx] at hx
      have hS := S_beq x s
      have HLT := Lib.hid hlt
      have HXX := Lib.hid hxx
      clear hxx hcc
      by_cases he : x = s
      · rw [decide_eq_true he] at hS
        have HF := Lib.hid (show decide (s ∈ ls) = true from decide_eq_true (by rw [← he, HXX.out]; exact List.getElem_mem hlt))
        clear he
        go_wp2_with fail
        go_ret
        exact ⟨by rw [HF.out]; rfl, rfl⟩
      · rw [decide_eq_false he] at hS
        have HE := Lib.hid (show ls[k] ≠ s from fun h => he (HXX.out.trans h))
        clear he
        go_wp2_with fail
        go_roundw
        case rel =>
          refine ⟨k + 1, by have := HLT.out; omega, by go_num, fun j hj hjk => ?_, trivial⟩
          by_cases e : j = k
          · subst e; exact HE.out
          · exact HALL.out j hj (by omega)
        case measure => have := HLT.out; simp [intOf]; omega
    · have HF := Lib.hid (show decide (s ∈ ls) = false from decide_eq_false (fun h => by
        obtain ⟨j, hj, e⟩ := List.getElem_of_mem h
        exact HALL.out j hj (by omega) e))
      go_wp2_with fail
      go_ret
      exact ⟨by rw [HF.out]; rfl, rfl⟩
/-- append(l, r) of records of the call's own. -/
theorem wpList_rec {W : World} {ops : Array Oper} {rest : List Oper} {o : Oper} {a : Act} {Q : Exit → Act → World → Prop} (hgd : o.guard = none) (s x : Operand) (base B : Nat) (v : Value) (l : List Rk.R) (r : Rk.R)
    (ho : o.op = .call { callee := .builtin .append, args := #[s, x], argTypes := #[27, 27] }) (hs : a.eval s = v) (hx : a.eval x = .slice (some ⟨B, 0, none⟩) 1 1)
    (hown : RRow base W v l) (hB : W.heap[B]? = some (.cells (recCs r) 32 (0, 0))) (hn : l.length ≤ 1048576) (hb : base ≤ W.heap.size)
    (h : ∀ g cap W', RRow base W' (.slice (some ⟨g, 0, none⟩) (l.length + 1) cap) (l ++ [r]) → W.grownBy W' v.ownBlock → Below base W W' → wpList Tryd.prog ops Q rest (a.put o.dst (.slice (some ⟨g, 0, none⟩) (l.length + 1) cap)) W') : wpList Tryd.prog ops Q (o :: rest) a W := by
  obtain ⟨i0, hi, hz0, hz1, hz2⟩ := info_parts Tryd.infoRec
  refine wpList_append_lies W hgd s x 27 ho base 32 i0 _ 10 120 Tryd.underlying27 hi hz0 hz1 hz2 rfl (by omega) v l.length (cells10 l) hs hown ⟨B, 0, none⟩ 1 1 (cellsR r) hx rfl (World.news_of_block (cs := recCs r) hB) (cellsR_one r) (by omega) (by unfold maxLen; omega) (by omega) hb W.heap.size rfl ?_
  intro g cap W' h2 h3 _ _
  refine h g cap W' ?_ h3 ((Below.refl _ _).grown h3 hb (fun k hk => (World.ownsRow.lt hown k hk).1))
  unfold RRow
  rw [List.length_append, cells10_append]
  have e : cells10 [r] = cellsR r := by simp [cells10]
  rw [e]
  exact h2
theorem rows_apart {b b' : Nat} {w : World} {v v' : Value} {l : List (List UInt8)} {l' : List Rk.R} (h : SRow b w v l) (h' : RRow b' w v' l') : v'.ownBlock = none ∨ v'.ownBlock ≠ v.ownBlock := by
  rcases h'.2 with ⟨rfl, _⟩ | ⟨g, cap, cur, rfl, _, hg, _⟩
  · exact .inl rfl
  · right
    intro e
    rcases h.2 with ⟨rfl, _⟩ | ⟨g', cap', cur', rfl, _, hg', _⟩
    · simp [Value.ownBlock] at e
    · simp [Value.ownBlock] at e
      subst e
      rw [hg] at hg'
      injection hg' with hg'
      injection hg' with _ hg' _
      exact absurd hg' (by decide)
theorem rows_apart2 {b b' : Nat} {w : World} {v v' : Value} {l : List (List UInt8)} {l' : List Rk.R} (h : SRow b w v l) (h' : RRow b' w v' l') : v.ownBlock = none ∨ v.ownBlock ≠ v'.ownBlock := by
  rcases rows_apart h h' with h1 | h1
  · rcases h.2 with ⟨rfl, _⟩ | ⟨g, cap, cur, rfl, _⟩
    · exact .inl rfl
    · exact .inr (by rw [h1]; simp [Value.ownBlock])
  · exact .inr h1.symm
namespace Tr
section
variable {room : Nat} {l : List R}
theorem Good.below_iff (g : Good room l) {top : Nm} (ht : Tr.pl l top < l.length) {r : R} (hr : r ∈ l) : r.name ∈ Tr.below l top ↔ top ∈ Tr.path l r.name := by
  have hx : Tr.pl l r.name < l.length := has_mem.2 ⟨r, hr, rfl⟩
  rw [below_mem g ht, g.path_mem hx]
  exact ⟨fun h => ⟨ht, h⟩, fun h => h.2⟩
theorem Good.drop_stays (g : Good room l) {top : Nm} (ht : Tr.pl l top < l.length) : Tr.drop l top = l.filter (fun r => !decide (top ∈ Tr.path l r.name)) := by
  unfold Tr.drop Tr.but
  exact List.filter_congr (fun r hr => by
    congr 1
    rw [decide_eq_decide]
    exact g.below_iff ht hr)
theorem Good.drop_gone (g : Good room l) {top : Nm} (ht : Tr.pl l top < l.length) : Tr.below (Tr.drop l top) top = [] := by
  refine below_none (fun h => ?_)
  obtain ⟨r, hr, e⟩ := has_mem.1 h
  unfold Tr.drop Tr.but at hr
  rw [List.mem_filter] at hr
  have : r.name ∈ Tr.below l top := (below_mem g ht).2 (by rw [e]; exact .self)
  simp [this] at hr
theorem below_first {top : Nm} (ht : Tr.pl l top < l.length) : ∃ t, Tr.below l top = top :: t := by
  unfold Tr.below
  rw [if_pos (has_iff.2 ht)]
  obtain ⟨n, hn⟩ : ∃ n, l.length = n + 1 := ⟨l.length - 1, by omega⟩
  rw [hn]
  exact ⟨_, rfl⟩
def goneU (l : List R) (top : Nm) (k : Nat) : List Nm := ((l.take k).filter (fun r => decide (top ∈ Tr.path l r.name))).map (·.name)
def stayU (l : List R) (top : Nm) (k : Nat) : List R := (l.take k).filter (fun r => !decide (top ∈ Tr.path l r.name))
theorem goneU_in {top : Nm} {k : Nat} (hk : k < l.length) (h : top ∈ Tr.path l l[k].name) : goneU l top (k + 1) = goneU l top k ++ [l[k].name] ∧ stayU l top (k + 1) = stayU l top k := by
  unfold goneU stayU
  rw [List.take_succ_eq_append_getElem hk, List.filter_append, List.filter_append, List.map_append]
  simp [h]
theorem goneU_out {top : Nm} {k : Nat} (hk : k < l.length) (h : ¬ top ∈ Tr.path l l[k].name) : goneU l top (k + 1) = goneU l top k ∧ stayU l top (k + 1) = stayU l top k ++ [l[k]] := by
  unfold goneU stayU
  rw [List.take_succ_eq_append_getElem hk, List.filter_append, List.filter_append, List.map_append]
  simp [h]
theorem goneU_len (top : Nm) (k : Nat) : (goneU l top k).length ≤ l.length ∧ (stayU l top k).length ≤ l.length := by
  unfold goneU stayU
  rw [List.length_map]
  have h1 := List.length_filter_le (fun r => decide (top ∈ Tr.path l r.name)) (l.take k)
  have h2 := List.length_filter_le (fun r => !decide (top ∈ Tr.path l r.name)) (l.take k)
  rw [List.length_take] at h1 h2
  omega
theorem Good.gone_all (g : Good room l) {top : Nm} (ht : Tr.pl l top < l.length) : (Tr.below l top).length = (goneU l top l.length).length ∧ ∀ x ∈ goneU l top l.length, x ∈ Tr.below l top := by
  unfold goneU
  rw [List.take_of_length_le (Nat.le_refl _)]
  constructor
  · rw [g.drop_count ht, List.filter_map, List.length_map, List.length_map]
    rfl
  · intro x hx
    rw [List.mem_map] at hx
    obtain ⟨r, hr, rfl⟩ := hx
    rw [List.mem_filter, decide_eq_true_iff] at hr
    exact (g.below_iff ht hr.1).2 hr.2
end
end Tr
set_option maxHeartbeats 6400000 in
theorem treeDrops_any (room : Int) (A0 : Option Addr) (c0 : Nat) (os : List Tr.O) (which : Int) (hwh : (Lit.int .u8 which).wf = true) (w : World) (hE : EnvT w) (h0 : OIn w w.heap.size A0 os) (m0 : os.length ≤ 9223372036854775807) :
    Calls Tryd.prog 4 #[.int .i64 room, .slice A0 os.length c0, .int .u8 which] w fun e w' => e = .returned (.bool true) ∧ Below w.heap.size w w' := by
  have HAW := Lib.hid (awake14_any w hE)
  have HF0 := Lib.hid (fun (w' : World) (hb : Below w.heap.size w w') => fewT_any w' A0 c0 os (h0.next hb) m0)
  have HWK := Lib.hid (fun (hf : Tr.few os = true) (w' : World) (hb : Below w.heap.size w w') => walkedT_any room A0 c0 os (h0.next hb) hf (hE.next hb))
  have hn11 : ∀ w, Calls Tryd.prog 13 #[.int .i64 1, .int .u64 1] w fun e w' => e = .returned (.string (S (nmT 1 1))) ∧ w = w' := fun w => (nameT_any 1 1 ex_n11 (by decide) w).mono fun e w' h => ⟨h.1, h.2.symm⟩
  generalize nmT 1 1 = nm at hn11
  obtain ⟨q0, hq0⟩ : ∃ q, q = Tr.few os := ⟨_, rfl⟩
  rw [← hq0] at HF0 HWK
  obtain ⟨wh, rfl, hwh⟩ := u8_natT hwh
  clear hE h0 m0 hq0
  go_enter Tryd.func4, Tryd.ntmps4
  go_wp2_with fail
  refine HAW.out.mono ?_
  rintro e w1 ⟨rfl, hb1⟩
  have HB1 := Lib.hid hb1
  clear hb1 HAW
  go_wp2_with fail
  refine (HF0.out w1 HB1.out).mono ?_
  rintro e w2 ⟨rfl, hb2⟩
  have HB2 := Lib.hid (HB1.out.trans (hb2.mono HB1.out.size))
  clear hb2 HF0 HB1
  cases q0 with
  | false =>
    go_wp2_with fail
    go_ret
    exact ⟨rfl, HB2.out⟩
  | true =>
  go_wp2_with fail
  refine (HWK.out (by trivial) w2 HB2.out).mono ?_
  rintro e w3 ⟨T, rfl, hT, hb3⟩
  have hrl := roomT_le room
  have HG := Lib.hid (Tr.Good.walk os (Tr.Good.nil (roomT room)))
  obtain ⟨rm, hrm⟩ : ∃ rm, rm = roomT room := ⟨_, rfl⟩
  rw [← hrm] at hT HG hrl
  clear hrm
  obtain ⟨L, hL⟩ : ∃ L, L = Tr.walk rm [] os := ⟨_, rfl⟩
  rw [← hL] at hT HG
  have hLl : L.length ≤ rm := HG.out.le
  have HB3 := Lib.hid (HB2.out.trans (hb3.mono HB2.out.size))
  have HAL := Lib.hid (all_any hT (by omega))
  have HT3 := Lib.hid hT
  have HS23 := Lib.hid hb3.size
  clear hb3 hT hL HWK
  go_wp2_with fail
  refine HAL.out.mono ?_
  rintro e w4 ⟨v4, rfl, hr4, hb4⟩
  obtain ⟨A4, c4, rfl, hc4⟩ := hr4.form
  have HC4 := Lib.hid hc4
  have HB4 := Lib.hid (HB3.out.trans (hb4.mono HB3.out.size))
  have HT4 := Lib.hid (HT3.out.keep hb4)
  have HS4 := Lib.hid hb4.size
  clear hr4 hc4 hb4 HAL
  rcases Nat.eq_zero_or_pos L.length with hz | hpos
  · have hL0 : L = [] := List.length_eq_zero_iff.1 hz
    subst hL0
    have HD := Lib.hid (drop_any nm HG.out HT4.out (by decide))
    have HBN : Hid ((Tr.below [] nm).length = 0) := Lib.hid (by rw [Tr.below_none (by simp)]; rfl)
    clear hz
    go_wp2_with (go_at_call 13; (with_reducible refine (hn11 _).mono ?_); rintro _ _ ⟨rfl, rfl⟩)
    refine HD.out.mono ?_
    rintro e w5 ⟨v5, rfl, hs5, hT5, ho5⟩
    obtain ⟨A5, c5, e5, -⟩ := readsS hs5
    rw [HBN.out] at e5
    subst e5
    have HFIN := Lib.hid (HB4.out.trans (ho5.below (base := w.heap.size) (fun x _ h => by have := HB2.out.size; omega) HB4.out.size))
    clear hs5 hT5 ho5 HD
    go_wp2_with fail
    go_ret
    exact ⟨rfl, HFIN.out⟩
  · obtain ⟨i0, hi0, hi0l⟩ : ∃ i0 : Nat, i0 = wh % L.length ∧ i0 < L.length := ⟨_, rfl, Nat.mod_lt _ hpos⟩
    have hrem : (wh : Int) % (L.length : Int) = (i0 : Int) := by rw [hi0]; omega
    have hremt : Int.tmod (wh : Int) (L.length : Int) = (i0 : Int) := by rw [Int.tmod_eq_emod_of_nonneg (by omega)]; exact hrem
    have hz1 : ¬ (L.length : Int) = 0 := by omega
    have hz2 : ((L.length : Int) == 0) = false := beq_eq_false_iff_ne.2 hz1
    have hwc : IntKind.i64.wrap (wh : Int) = (wh : Int) := IntWalk.i64_in _ (by omega)
    obtain ⟨b, off, rfl, hbb, h6⟩ := HC4.out.at10 i0 hi0l
    have hct := h6.c1
    have hpl := HG.out.pl_at hi0l
    have i0I : (0 : Int) ≤ (i0 : Int) := by omega
    have i1I : (i0 : Int) < (L.length : Int) := by omega
    have HI0 := Lib.hid hi0l
    generalize L[i0].name = top at hct hpl
    have ht : Tr.pl L top < L.length := by omega
    have HTP := Lib.hid ht
    clear h6 hi0 hi0l hpl ht
    obtain ⟨base, hbase⟩ : ∃ base, base = w4.heap.size := ⟨_, rfl⟩
    go_upto_region 12 with fail
    clear hrem hremt hz1 hz2 hwc hct
    go_wp2_with fail
    go_loopw [12, 13, 14] (fun vg vs iv wr => ∃ k : Nat, k ≤ L.length ∧ iv = .int .i64 k ∧ SRow base wr vg (Tr.goneU L top k) ∧ RRow base wr vs (Tr.stayU L top k) ∧ Below base w4 wr) (fun _ _ iv _ => L.length - (intOf iv).toNat)
    case atStart => exact ⟨0, Nat.zero_le _, rfl, World.ownsRow_nil _ _ _ _, World.ownsRow_nil _ _ _ _, Below.refl _ _⟩
    case round =>
      obtain ⟨k, hk, rfl, hgr, hsr, hb⟩ := hrel
      have hbs := hb.size
      rw [← hbase] at hbs
      by_cases hlt : k < L.length
      · obtain ⟨b', off', e, -, h6⟩ := HC4.out.at10 k hlt
        cases e
        have h6k : At10 wr b (off + k * 10) L[k] := h6.keep hb (by rw [hbase]; exact hbb)
        have hx : Tr.pl L L[k].name < L.length := by rw [HG.out.pl_at hlt]; exact hlt
        have HPA := Lib.hid (path_any L[k].name HG.out (HT4.out.out (OutT.of (hb.mono (Nat.le_of_eq hbase.symm)) : OutT (fun _ => False) w4 wr) (fun _ _ _ h => h)) (by omega))
        have hpl64 : (Tr.path L L[k].name).length ≤ 64 := by have := (path_ok HG.out hx).2.1; omega
        have hin := fun h => Tr.goneU_in (top := top) hlt h
        have hout := fun h => Tr.goneU_out (top := top) hlt h
        have hlens := Tr.goneU_len (l := L) top k
        have hkI : (k : Int) < (L.length : Int) := by omega
        have hk0 : (0 : Int) ≤ (k : Int) := by omega
        have HLT := Lib.hid hlt
        generalize L[k] = r at h6k HPA hpl64 hin hout
        generalize Tr.path L r.name = P at HPA hpl64 hin hout
        have HIN := Lib.hid hin
        have HOUT := Lib.hid hout
        clear h6 hx hin hout hlt
        have HAT := Lib.hid h6k
        have hcn := h6k.c1
        have HB := Lib.hid hb
        have HROWS := Lib.hid (And.intro hgr hsr)
        clear h6k hb hgr hsr
        go_wp2_with fail
        refine HPA.out.mono ?_
        rintro e w6 ⟨vp, rfl, hps, hb6⟩
        obtain ⟨pA, pc, rfl, hpc⟩ := readsS hps
        have HI := Lib.hid (in_any pA pc P top w6 hpc (by omega))
        have HB6 := Lib.hid hb6
        have hg6 := own_below HROWS.out.1 hb6
        have hs6 := own_below HROWS.out.2 hb6
        have h66 := HAT.out.keep hb6 (by have := hbb; have := HB.out.size; omega)
        have hbs6 := hb6.size
        clear hps hpc hb6 hcn HPA HROWS
        go_wp2_with fail
        refine HI.out.mono ?_
        rintro _ _ ⟨rfl, rfl⟩
        have hb46 : Below base w4 w6 := HB.out.trans (HB6.out.mono hbs)
        have hap := rows_apart hg6 hs6
        have hap2 := rows_apart2 hg6 hs6
        by_cases htp : top ∈ P
        · rw [decide_eq_true htp]
          have HN := Lib.hid (HIN.out htp)
          have d1 := h66.c1
          clear htp h66 HI HIN HOUT
          go_wp2_with (at_builtin; refine wpList_name rfl (.tmp 68) (.tmp 74) base w6.heap.size _ (Tr.goneU L top k) r.name rfl rfl rfl (World.ownsRow.alloc hg6 _) (heap_alloc_new w6 _) (by omega) (by rw [World.size_alloc]; omega) ?_; intro g cg w7 hown7 hgr7 _ hb7)
          have hs7 : RRow base w7 _ (Tr.stayU L top k) := World.ownsRow.kept (World.ownsRow.alloc hs6 _) hgr7 hap
          have HF := Lib.hid (And.intro hown7 (And.intro hs7 ((hb46.alloc (by omega) _).trans hb7)))
          clear hown7 hs7 hgr7 hb7 hg6 hs6 hb46
          go_roundw
          case rel => exact ⟨k + 1, by have := HLT.out; omega, by go_num, by rw [HN.out.1]; exact HF.out.1, by rw [HN.out.2]; exact HF.out.2.1, HF.out.2.2⟩
          case measure => have := HLT.out; simp [intOf]; omega
        · rw [decide_eq_false htp]
          have HN := Lib.hid (HOUT.out htp)
          obtain ⟨d0, d1, d2, d3, d4, d5, d6, d7, d8, d9⟩ := h66
          clear htp HI HIN HOUT
          go_wp2_with (at_builtin; refine wpList_rec rfl (.tmp 76) (.tmp 81) base w6.heap.size _ (Tr.stayU L top k) r rfl rfl rfl (World.ownsRow.alloc hs6 _) (heap_alloc_new w6 _) (by omega) (by rw [World.size_alloc]; omega) ?_; intro g cg w7 hown7 hgr7 hb7)
          have hg7 : SRow base w7 _ (Tr.goneU L top k) := World.ownsRow.kept (World.ownsRow.alloc hg6 _) hgr7 hap2
          have HF := Lib.hid (And.intro hg7 (And.intro hown7 ((hb46.alloc (by omega) _).trans hb7)))
          clear hown7 hg7 hgr7 hb7 hg6 hs6 hb46
          go_roundw
          case rel => exact ⟨k + 1, by have := HLT.out; omega, by go_num, by rw [HN.out.1]; exact HF.out.1, by rw [HN.out.2]; exact HF.out.2.1, HF.out.2.2⟩
          case measure => have := HLT.out; simp [intOf]; omega
      · have hkn : k = L.length := by omega
        subst hkn
        have hT : TreeAt (fun x => w2.heap.size ≤ x ∧ x < w3.heap.size) wr T rm L := HT4.out.out (OutT.of (hb.mono (Nat.le_of_eq hbase.symm)) : OutT (fun _ => False) w4 wr) (fun _ _ _ h => h)
        obtain ⟨hga, hgb⟩ := HG.out.gone_all HTP.out
        have hst : Tr.stayU L top L.length = Tr.drop L top := by
          rw [HG.out.drop_stays HTP.out]
          unfold Tr.stayU
          rw [List.take_of_length_le (Nat.le_refl _)]
        rw [hst] at hsr
        have hgl := (Tr.goneU_len (l := L) top L.length).1
        obtain ⟨gn, hgn⟩ : ∃ gn, gn = Tr.goneU L top L.length := ⟨_, rfl⟩
        rw [← hgn] at hgr hga hgb hgl
        have HDR := Lib.hid (drop_any top HG.out hT (by omega))
        have HGD := Lib.hid (HG.out.drop top)
        have HG2 := Lib.hid (HG.out.drop_gone HTP.out)
        have hfst := Tr.below_first HTP.out
        obtain ⟨bl, hbl⟩ : ∃ bl, bl = Tr.below L top := ⟨_, rfl⟩
        rw [← hbl] at HDR hga hgb hfst
        obtain ⟨dr, hdr⟩ : ∃ dr, dr = Tr.drop L top := ⟨_, rfl⟩
        rw [← hdr] at HDR hsr HGD HG2
        have hdl : dr.length ≤ 64 := Nat.le_trans HGD.out.le (by omega)
        obtain ⟨gA, gc, rfl, -⟩ := readsS hgr
        obtain ⟨sA, sc, rfl, -⟩ := RRow.form hsr
        have HB := Lib.hid (And.intro hb (And.intro hgr hsr))
        have HGB := Lib.hid (And.intro hgb hfst)
        have hga' : (bl.length : Int) = (gn.length : Int) := by omega
        clear hT hb hgr hsr hst hgn hbl hdr hgb hfst
        obtain ⟨wA, rfl⟩ : ∃ q, q = wr := ⟨_, rfl⟩
        go_wp2_with fail
        refine HDR.out.mono ?_
        rintro e w6 ⟨vt, rfl, hts, hT6, ho6⟩
        obtain ⟨tl, htl⟩ := HGB.out.2
        obtain ⟨tg, tc, et, htlt, htc⟩ := SRow.open hts (by rw [htl]; simp)
        have hbpos : 0 < bl.length := by rw [htl]; simp
        have h00 := htc 0 hbpos
        have hb0 : bl[0] = top := by simp [htl]
        rw [hb0] at h00
        have HTC := Lib.hid (show SCells w6 w6.heap.size (some ⟨tg, 0, none⟩) bl from fun _ => ⟨tg, 0, rfl, htlt, fun k hk => by rw [Nat.zero_add]; exact htc k hk⟩)
        have HBL := Lib.hid hga
        rw [hga] at et hbpos
        subst et
        have hg6 := own_kept HB.out.2.1 (fun k hk => ho6.block k (World.ownsRow.lt HB.out.2.1 k hk).2 (fun h => by have := (World.ownsRow.lt HB.out.2.1 k hk).1; have := HS4.out; omega))
        have hs6 := own_kept HB.out.2.2 (fun k hk => ho6.block k (World.ownsRow.lt HB.out.2.2 k hk).2 (fun h => by have := (World.ownsRow.lt HB.out.2.2 k hk).1; have := HS4.out; omega))
        obtain ⟨gA', gc', eg, hgc⟩ := readsS hg6
        injection eg with eg1 eg2 eg3
        subst eg1 eg3
        have HGC := Lib.hid hgc
        have hbw : Below w.heap.size w wA := HB4.out.trans (HB.out.1.mono (by have := HB4.out.size; omega))
        have hbw6 : Below w.heap.size w w6 := hbw.trans (ho6.below (base := w.heap.size) (fun x _ h => by have := HB2.out.size; omega) hbw.size)
        have HW6 := Lib.hid (And.intro hs6 (And.intro hT6 (And.intro hbw6 ho6.size)))
        have g1 : (0 : Int) < (gn.length : Int) := by omega
        have g2 : ((S top).toList != (S top).toList) = false := by simp
        have g3 : ((S top).toList == (S top).toList) = true := by simp
        have g4 : ((gn.length : Int) != (gn.length : Int)) = false := by simp
        clear hts hT6 ho6 htc htl hb0 hg6 hs6 hgc hbw hbw6 HDR hga' hga
        go_wp2_with fail
        go_loopw [17] (fun iv wq => ∃ j : Nat, j ≤ gn.length ∧ iv = .int .i64 j ∧ w6 = wq) (fun iv _ => gn.length - (intOf iv).toNat)
        case atStart => exact ⟨0, Nat.zero_le _, rfl, rfl⟩
        case round =>
          obtain ⟨j, hj, rfl, rfl⟩ := hrel
          by_cases hjl : j < gn.length
          · obtain ⟨gb, go, rfl, -, hgcell⟩ := HGC.out (by omega)
            have hx := hgcell j hjl
            have hmem := HGB.out.1 gn[j] (List.getElem_mem hjl)
            have hin := in_any (some ⟨tg, 0, none⟩) tc bl gn[j] w6 HTC.out (by have := HBL.out; omega)
            rw [HBL.out, decide_eq_true hmem] at hin
            have HIN := Lib.hid hin
            have HJL := Lib.hid hjl
            have hjI : (j : Int) < (gn.length : Int) := by omega
            have hj0 : (0 : Int) ≤ (j : Int) := by omega
            clear hmem hin hgcell
            generalize gn[j] = x at hx HIN
            go_wp2_with fail
            refine HIN.out.mono ?_
            rintro _ _ ⟨rfl, rfl⟩
            go_wp2_with fail
            go_roundw
            case rel => exact ⟨j + 1, by have := HJL.out; omega, by go_num, trivial⟩
            case measure => have := HJL.out; simp [intOf]; omega
          · have HAL6 := Lib.hid (all_any HW6.out.2.1 (by omega))
            clear h00
            go_wp2_with fail
            refine HAL6.out.mono ?_
            rintro e w7 ⟨v7, rfl, hr7, hb7⟩
            have HRE := Lib.hid (records_same hr7 (own_below HW6.out.1 hb7) (by omega))
            have HB7 := Lib.hid hb7
            clear hr7 hb7 HAL6
            go_wp2_with fail
            refine HRE.out.mono ?_
            rintro e w8 ⟨rfl, hb8⟩
            have hb68 := HB7.out.trans (hb8.mono HB7.out.size)
            have HDR2 := Lib.hid (drop_any top HGD.out (HW6.out.2.1.keep hb68) (by omega))
            have HB68 := Lib.hid hb68
            clear hb8 hb68 HRE HB7
            go_wp2_with fail
            refine HDR2.out.mono ?_
            rintro e w9 ⟨v9, rfl, hs9, hT9, ho9⟩
            obtain ⟨A9, c9, e9, -⟩ := readsS hs9
            rw [HG2.out] at e9
            subst e9
            have hbw8 := HW6.out.2.2.1.trans (HB68.out.mono HW6.out.2.2.1.size)
            have HFIN := Lib.hid (hbw8.trans (ho9.below (base := w.heap.size) (fun x _ h => by
              have := HB2.out.size
              have := HB.out.1.size
              have := HB4.out.size
              rcases h with h | h <;> omega) hbw8.size))
            clear hs9 hT9 ho9 hbw8 HDR2
            go_wp2_with fail
            go_ret
            exact ⟨rfl, HFIN.out⟩
end Go.Proofs.YtfeaonbeklmfgaaDoor
