/- What package tree's Get, Kids and Path answer. Condition of Path: each parent lies ahead of its kids. -/
import Derived.Test.YtfeaonbeklmfgaaGreatDoorTrB
namespace Go.Proofs.YtfeaonbeklmfgaaGreatDoor
set_option maxRecDepth 8000
open Go.RowKit

theorem readsS {base : Nat} {w : World} {v : Value} {l : List (List UInt8)} (h : SRow base w v l) : ∃ A cap, v = .slice A l.length cap ∧ SCells w w.heap.size A l := by
  rcases h.2 with ⟨rfl, hn⟩ | ⟨g, cap, cur, hv, hbase, hg, hr⟩
  · exact ⟨none, 0, by rw [hn], fun h0 => absurd h0 (by omega)⟩
  · refine ⟨_, cap, hv, fun _ => ⟨g, 0, rfl, lt_of_blk hg, fun k hk => ?_⟩⟩
    subst hv
    have := World.ownsRow.cells h (g := g) rfl k (.string (S l[k])) (by simp [strsV, hk])
    rw [Addr.add_mid] at this
    exact this
/-- append(l, s) of texts of the call's own. -/
theorem wpList_name {W : World} {ops : Array Oper} {rest : List Oper} {o : Oper} {a : Act} {Q : Exit → Act → World → Prop} (hgd : o.guard = none) (s x : Operand) (base B : Nat) (v : Value) (l : List (List UInt8)) (c : List UInt8)
    (ho : o.op = .call { callee := .builtin .append, args := #[s, x], argTypes := #[34, 34] }) (hs : a.eval s = v) (hx : a.eval x = .slice (some ⟨B, 0, none⟩) 1 1)
    (hown : SRow base W v l) (hB : W.heap[B]? = some (.cells #[.string (S c)] 9 (0, 0))) (hn : l.length ≤ 1048576) (hb : base ≤ W.heap.size)
    (h : ∀ g cap W', SRow base W' (.slice (some ⟨g, 0, none⟩) (l.length + 1) cap) (l ++ [c]) → W.grownBy W' v.ownBlock → (v.ownBlock = some g ∨ g = W.heap.size) → Below base W W' → wpList Tryz.prog ops Q rest (a.put o.dst (.slice (some ⟨g, 0, none⟩) (l.length + 1) cap)) W') : wpList Tryz.prog ops Q (o :: rest) a W := by
  obtain ⟨i0, hi, hz0, hz1, hz2⟩ := info_parts Tryz.infoString
  refine wpList_append_lies W hgd s x 34 ho base 9 i0 _ 1 16 Tryz.underlying34 hi hz0 hz1 hz2 rfl (by omega) v l.length (strsV l) hs hown ⟨B, 0, none⟩ 1 1 [.string (S c)] hx rfl (World.news_of_block (cs := #[.string (S c)]) hB) (by simp [Value.oneCell']) (by omega) (by unfold maxLen; omega) (by omega) hb W.heap.size rfl ?_
  intro g cap W' h2 h3 h4 _
  exact h g cap W' (srow_snoc h2) h3 h4 ((Below.refl _ _).grown h3 hb (fun k hk => (World.ownsRow.lt hown k hk).1))

def noR : Rk.R := ⟨0, [], [], [], [], [], 0, 0, 0, false⟩
/-- The record of a name, as Get tells it. -/
def getR (l : List Rk.R) (n : List UInt8) : Rk.R := if h : Tr.pl l n < l.length then l[Tr.pl l n] else noR
/-- A record laid over another one. -/
def layR (w : World) (a : Nat) (r : Rk.R) : World := (((((((((w.setCell ⟨a, 0, none⟩ (.int .i64 r.kind)).setCell ⟨a, 1, none⟩ (.string (S r.name))).setCell ⟨a, 2, none⟩ (.string (S r.parent))).setCell ⟨a, 3, none⟩ (.string (S r.user))).setCell ⟨a, 4, none⟩ (.string (S r.service))).setCell ⟨a, 5, none⟩ (.string (S r.url))).setCell ⟨a, 6, none⟩ (.int .i64 r.made)).setCell ⟨a, 7, none⟩ (.int .i64 r.used)).setCell ⟨a, 8, none⟩ (.int .i64 r.uses)).setCell ⟨a, 9, none⟩ (.bool r.fresh)
theorem layR_cell {w : World} {a : Nat} {x : Rk.R} (h : w.heap[a]? = some (.cells (recCs x) 30 (0, 0))) (i : Nat) (v : Value) (x' : Rk.R) (e : (recCs x).setIfInBounds i v = recCs x') : (w.setCell ⟨a, i, none⟩ v).heap[a]? = some (.cells (recCs x') 30 (0, 0)) := by
  rw [← e]
  exact heap_setCell_same w a i _ _ v h
theorem layR_blk {w : World} {a : Nat} {x : Rk.R} (r : Rk.R) (h : w.heap[a]? = some (.cells (recCs x) 30 (0, 0))) : (layR w a r).heap[a]? = some (.cells (recCs r) 30 (0, 0)) := by
  have h0 := layR_cell h 0 (.int .i64 r.kind) ⟨r.kind, x.name, x.parent, x.user, x.service, x.url, x.made, x.used, x.uses, x.fresh⟩ rfl
  have h1 := layR_cell h0 1 (.string (S r.name)) ⟨r.kind, r.name, x.parent, x.user, x.service, x.url, x.made, x.used, x.uses, x.fresh⟩ rfl
  have h2 := layR_cell h1 2 (.string (S r.parent)) ⟨r.kind, r.name, r.parent, x.user, x.service, x.url, x.made, x.used, x.uses, x.fresh⟩ rfl
  have h3 := layR_cell h2 3 (.string (S r.user)) ⟨r.kind, r.name, r.parent, r.user, x.service, x.url, x.made, x.used, x.uses, x.fresh⟩ rfl
  have h4 := layR_cell h3 4 (.string (S r.service)) ⟨r.kind, r.name, r.parent, r.user, r.service, x.url, x.made, x.used, x.uses, x.fresh⟩ rfl
  have h5 := layR_cell h4 5 (.string (S r.url)) ⟨r.kind, r.name, r.parent, r.user, r.service, r.url, x.made, x.used, x.uses, x.fresh⟩ rfl
  have h6 := layR_cell h5 6 (.int .i64 r.made) ⟨r.kind, r.name, r.parent, r.user, r.service, r.url, r.made, x.used, x.uses, x.fresh⟩ rfl
  have h7 := layR_cell h6 7 (.int .i64 r.used) ⟨r.kind, r.name, r.parent, r.user, r.service, r.url, r.made, r.used, x.uses, x.fresh⟩ rfl
  have h8 := layR_cell h7 8 (.int .i64 r.uses) ⟨r.kind, r.name, r.parent, r.user, r.service, r.url, r.made, r.used, r.uses, x.fresh⟩ rfl
  exact layR_cell h8 9 (.bool r.fresh) ⟨r.kind, r.name, r.parent, r.user, r.service, r.url, r.made, r.used, r.uses, r.fresh⟩ rfl
theorem layR_other (w : World) (a : Nat) (r : Rk.R) (k : Nat) (hk : k ≠ a) : (layR w a r).heap[k]? = w.heap[k]? := by
  unfold layR
  simp only [Below.heap_setCell _ ⟨a, _, none⟩ _ k hk]
theorem layR_size (w : World) (a : Nat) (r : Rk.R) : (layR w a r).heap.size = w.heap.size := by unfold layR; simp [World.size_setCell]
theorem layR_one (w : World) (a i : Nat) (v : Value) : w.grownBy (w.setCell ⟨a, i, none⟩ v) (some a) := ⟨rfl, rfl, rfl, by simp, fun k _ hk => heap_setCell_other w ⟨a, i, none⟩ k _ (fun e => hk (by simp [e]))⟩
theorem layR_two {w w1 w2 : World} {row : Option Nat} (h : w.grownBy w1 row) (h2 : w1.grownBy w2 row) : w.grownBy w2 row :=
  ⟨h2.os.trans h.os, h2.tape.trans h.tape, h2.output.trans h.output, Nat.le_trans h.size h2.size, fun k hk hne => (h2.block k (Nat.lt_of_lt_of_le hk h.size) hne).trans (h.block k hk hne)⟩
theorem layR_grown (w : World) (a : Nat) (r : Rk.R) : w.grownBy (layR w a r) (some a) := by
  unfold layR
  refine layR_two ?_ (layR_one _ a 9 _)
  refine layR_two ?_ (layR_one _ a 8 _)
  refine layR_two ?_ (layR_one _ a 7 _)
  refine layR_two ?_ (layR_one _ a 6 _)
  refine layR_two ?_ (layR_one _ a 5 _)
  refine layR_two ?_ (layR_one _ a 4 _)
  refine layR_two ?_ (layR_one _ a 3 _)
  refine layR_two ?_ (layR_one _ a 2 _)
  refine layR_two ?_ (layR_one _ a 1 _)
  exact layR_one _ a 0 _
theorem recAt_of {w : World} {b : Nat} {r : Rk.R} (h : RecAt w b r) : At10 w b 0 r := ⟨h.kind, h.name, h.parent, h.user, h.service, h.url, h.made, h.used, h.uses, h.fresh⟩
theorem frozenR {w : World} {b : Nat} {r : Rk.R} (h : w.heap[b]? = some (.cells (recCs r) 30 (0, 0))) (i : Nat) : w.frozen? ⟨b, i, none⟩ = false := by simp [World.frozen?, h]

set_option maxHeartbeats 1600000 in
theorem get_any {G : Nat → Prop} {w : World} {T room : Nat} {l : List Rk.R} (n : List UInt8) (h : TreeAt G w T room l) (hl : l.length ≤ 1048576) :
    Calls Tryz.prog 14 #[.pointer (some ⟨T, 0, none⟩), .string (S n)] w fun e w' => e = .returned (.tuple #[recV (getR l n), .bool (Tr.has l n)]) ∧ Below w.heap.size w w' := by
  obtain ⟨wb, hwb⟩ : ∃ wb, wb = w.alloc (.cells #[.int .i64 0, .string ⟨#[]⟩, .string ⟨#[]⟩, .string ⟨#[]⟩, .string ⟨#[]⟩, .string ⟨#[]⟩, .int .i64 0, .int .i64 0, .int .i64 0, .bool false] 30) := ⟨_, rfl⟩
  have hbb : Below w.heap.size w wb := by rw [hwb]; exact (Below.refl _ _).alloc (Nat.le_refl _) _
  have hblk : wb.heap[w.heap.size]? = some (.cells (recCs noR) 30 (0, 0)) := by rw [hwb]; exact heap_alloc_new w _
  have hlt : w.heap.size < wb.heap.size := by rw [hwb]; simp
  have hT := h.keep hbb
  have HP := Lib.hid (place_any n hT hl)
  have KEEP : Hid (∀ w1, Below wb.heap.size wb w1 → RecAt w1 w.heap.size noR ∧ (∀ i, w1.frozen? ⟨w.heap.size, i, none⟩ = false) ∧ (∀ r', RecAt (layR w1 w.heap.size r') w.heap.size r' ∧ Below w.heap.size w (layR w1 w.heap.size r')) ∧ TreeAt G w1 T room l) := Lib.hid fun w1 hb => by
    have q := (hb.block _ hlt).trans hblk
    have hs := hb.size
    exact ⟨recAt_blk q, frozenR q, fun r' => ⟨recAt_blk (layR_blk r' q), (hbb.trans (hb.mono hbb.size)).grown (layR_grown w1 w.heap.size r') (by omega) (fun k hk => by cases hk; exact Nat.le_refl _)⟩, hT.keep hb⟩
  clear hbb hblk hlt hT h
  go_enter Tryz.func14, Tryz.ntmps14
  go_upto_region 1 with fail
  rw [← hwb]
  clear hwb
  go_wp2_with fail
  refine HP.out.mono ?_
  rintro e w1 ⟨rfl, hb1⟩
  obtain ⟨⟨o0, o1, o2, o3, o4, o5, o6, o7, o8, o9⟩, hfz, hlay, hT1⟩ := KEEP.out w1 hb1
  clear HP KEEP hb1
  by_cases hn : Tr.pl l n < l.length
  · have e1 : plI l n = (Tr.pl l n : Int) := by unfold plI; rw [if_pos hn]
    rw [e1]
    have HD : Hid (Ending.returned (.tuple #[recV l[Tr.pl l n], .bool true]) = .returned (.tuple #[recV (getR l n), .bool (Tr.has l n)])) := Lib.hid (by
      unfold getR
      rw [dif_pos hn, Tr.has_iff.2 hn])
    obtain ⟨-, A, cap, c1, hc⟩ := hT1.cells
    obtain ⟨b, off, rfl, -, h6⟩ := hc.at10 _ hn
    have i0 : (0 : Int) ≤ (Tr.pl l n : Int) := by omega
    have i1 : (Tr.pl l n : Int) < (l.length : Int) := by omega
    have HLAY := Lib.hid (hlay l[Tr.pl l n])
    clear e1 hlay hT1 hc
    generalize l[Tr.pl l n] = x at HD h6 HLAY
    generalize Tr.pl l n = j at i0 i1 h6 ⊢
    obtain ⟨d0, d1, d2, d3, d4, d5, d6, d7, d8, d9⟩ := h6
    go_wp2_with fail
    obtain ⟨⟨z0, z1, z2, z3, z4, z5, z6, z7, z8, z9⟩, hbz⟩ := HLAY.out
    change bodyPost Tryz.prog _ _ _ _ (layR w1 w.heap.size x)
    refine bodyPost_ret (v := .tuple #[recV x, .bool true]) ?_ rfl ⟨HD.out, hbz⟩
    clear hbz hfz o0 o1 o2 o3 o4 o5 o6 o7 o8 o9 d0 d1 d2 d3 d4 d5 d6 d7 d8 d9 c1
    generalize layR w1 w.heap.size x = wz at z0 z1 z2 z3 z4 z5 z6 z7 z8 z9
    simp [results, Tryz.results14, go_sem, z0, z1, z2, z3, z4, z5, z6, z7, z8, z9]
    rfl
  · have e1 : plI l n = -1 := by unfold plI; rw [if_neg hn]
    rw [e1]
    have HD : Hid (Ending.returned (.tuple #[recV noR, .bool false]) = .returned (.tuple #[recV (getR l n), .bool (Tr.has l n)])) := Lib.hid (by
      unfold getR
      rw [dif_neg hn]
      unfold Tr.has
      rw [decide_eq_false hn])
    have HLAY := Lib.hid (hlay noR)
    clear e1 hlay hT1
    go_wp2_with fail
    obtain ⟨⟨z0, z1, z2, z3, z4, z5, z6, z7, z8, z9⟩, hbz⟩ := HLAY.out
    change bodyPost Tryz.prog _ _ _ _ (layR w1 w.heap.size noR)
    refine bodyPost_ret (v := .tuple #[recV noR, .bool false]) ?_ rfl ⟨HD.out, hbz⟩
    clear hbz hfz o0 o1 o2 o3 o4 o5 o6 o7 o8 o9
    generalize layR w1 w.heap.size noR = wz at z0 z1 z2 z3 z4 z5 z6 z7 z8 z9
    simp [results, Tryz.results14, go_sem, z0, z1, z2, z3, z4, z5, z6, z7, z8, z9]
    rfl

/-- What Kids tells. -/
def kidsT (l : List Rk.R) (n : List UInt8) : List (List UInt8) := if Tr.has l n = true then Tr.kids l n else []
def kidsUpto (l : List Rk.R) (n : List UInt8) (k : Nat) : List (List UInt8) := Tr.kids (l.take k) n
theorem kids_len (l : List Rk.R) (n : List UInt8) : (Tr.kids l n).length ≤ l.length := by
  unfold Tr.kids
  rw [List.length_map]
  exact List.length_filter_le _ _
theorem kidsUpto_hit {l : List Rk.R} {n : List UInt8} {k : Nat} (hk : k < l.length) (h : l[k].parent = n) : kidsUpto l n (k + 1) = kidsUpto l n k ++ [l[k].name] := by
  unfold kidsUpto Tr.kids
  rw [List.take_succ_eq_append_getElem hk, List.filter_append, List.map_append]
  simp [h]
theorem kidsUpto_miss {l : List Rk.R} {n : List UInt8} {k : Nat} (hk : k < l.length) (h : l[k].parent ≠ n) : kidsUpto l n (k + 1) = kidsUpto l n k := by
  unfold kidsUpto Tr.kids
  rw [List.take_succ_eq_append_getElem hk, List.filter_append, List.map_append]
  simp [h]
theorem kidsUpto_len {l : List Rk.R} {n : List UInt8} {k : Nat} : (kidsUpto l n k).length ≤ k := by
  refine Nat.le_trans (kids_len _ _) ?_
  rw [List.length_take]
  omega
set_option maxHeartbeats 1600000 in
theorem kids_any {G : Nat → Prop} {w : World} {T room : Nat} {l : List Rk.R} (n : List UInt8) (h : TreeAt G w T room l) (hl : l.length ≤ 1048576) :
    Calls Tryz.prog 19 #[.pointer (some ⟨T, 0, none⟩), .string (S n)] w fun e w' => ∃ v, e = .returned v ∧ SRow w.heap.size w' v (kidsT l n) ∧ Below w.heap.size w w' := by
  have HH := Lib.hid (has_any n h hl)
  have HT := Lib.hid h
  clear h
  obtain ⟨q, hq⟩ : ∃ q, q = Tr.has l n := ⟨_, rfl⟩
  rw [← hq] at HH
  cases q with
  | false =>
    have HK : Hid (kidsT l n = []) := Lib.hid (by unfold kidsT; rw [← hq]; rfl)
    clear hq
    go_enter Tryz.func19, Tryz.ntmps19
    go_wp2_with fail
    refine HH.out.mono ?_
    rintro e w1 ⟨rfl, hb1⟩
    go_wp2_with fail
    go_ret
    exact ⟨_, rfl, by rw [HK.out]; exact World.ownsRow_nil _ _ _ _, hb1⟩
  | true =>
    have HK : Hid (kidsT l n = kidsUpto l n l.length) := Lib.hid (by unfold kidsT kidsUpto; rw [← hq, if_pos rfl, List.take_of_length_le (Nat.le_refl _)])
    clear hq
    go_enter Tryz.func19, Tryz.ntmps19
    go_wp2_with fail
    refine HH.out.mono ?_
    rintro e w1 ⟨rfl, hb1⟩
    obtain ⟨-, A, cap, c1, hc⟩ := (HT.out.keep hb1).cells
    have HC := Lib.hid hc
    have HB1 := Lib.hid hb1
    have hz1 := hb1.size
    clear hc hb1 HH
    go_wp2_with fail
    go_loopw [5, 17] (fun vs iv wr => ∃ k : Nat, k ≤ l.length ∧ iv = .int .i64 k ∧ SRow w1.heap.size wr vs (kidsUpto l n k) ∧ Below w1.heap.size w1 wr) (fun _ iv _ => l.length - (intOf iv).toNat)
    case atStart => exact ⟨0, Nat.zero_le _, rfl, by simp [kidsUpto, Tr.kids]; exact World.ownsRow_nil _ _ _ _, Below.refl _ _⟩
    case round =>
      obtain ⟨k, hk, rfl, hrow, hb⟩ := hrel
      have hbs := hb.size
      by_cases hlt : k < l.length
      · obtain ⟨b, off, rfl, hbb, h6⟩ := HC.out.at10 k hlt
        have hat := h6.keep hb hbb
        have hkl := kidsUpto_len (l := l) (n := n) (k := k)
        have HHIT := Lib.hid (fun h : l[k].parent = n => kidsUpto_hit hlt h)
        have HMISS := Lib.hid (fun h : l[k].parent ≠ n => kidsUpto_miss hlt h)
        clear h6
        generalize l[k] = x at hat HHIT HMISS
        have n0 : (0 : Int) ≤ (k : Int) := by omega
        have n1 : (k : Int) < (l.length : Int) := by omega
        have hR := At10.new wr x
        have hba : Below wr.heap.size wr (wr.alloc (.cells (recCs x) 30)) := (Below.refl _ _).alloc (Nat.le_refl _) _
        have hrowa := own_below hrow hba
        obtain ⟨kind, name, parent, user, service, url, made, used, uses, fresh⟩ := x
        obtain ⟨d0, d1, d2, d3, d4, d5, d6, d7, d8, d9⟩ := hat
        unfold recCs at hR hba hrowa
        dsimp only at hR hba hrowa d0 d1 d2 d3 d4 d5 d6 d7 d8 d9 HHIT HMISS
        obtain ⟨wb, hwb⟩ : ∃ wb, wb = wr.alloc (.cells #[.int .i64 kind, .string (S name), .string (S parent), .string (S user), .string (S service), .string (S url), .int .i64 made, .int .i64 used, .int .i64 uses, .bool fresh] 30) := ⟨_, rfl⟩
        have e1 := hR.c1
        have e2 := hR.c2
        dsimp only at e1 e2
        have hbz := hb.trans (hba.mono hbs)
        have hzs := hbz.size
        rw [← hwb] at e1 e2 hrowa hbz hzs
        clear hR hba hrow
        have hS := S_beq parent n
        by_cases hp : parent = n
        · rw [decide_eq_true hp] at hS
          have HN := Lib.hid (HHIT.out hp)
          clear hp HHIT HMISS
          go_upto_region 7 with fail
          rw [← hwb]
          clear hwb d0 d1 d2 d3 d4 d5 d6 d7 d8 d9
          go_wp2_with (at_builtin; refine wpList_name rfl (.tmp 25) (.tmp 28) w1.heap.size wb.heap.size _ (kidsUpto l n k) name rfl rfl rfl (World.ownsRow.alloc hrowa _) (heap_alloc_new wb _) (by omega) (by rw [World.size_alloc]; omega) ?_; intro g cg w6 hown6 _ _ hb6)
          go_roundw
          case rel => exact ⟨k + 1, by omega, by go_num, by rw [HN.out]; simpa using hown6, (hbz.alloc hzs _).trans hb6⟩
          case measure => simp [intOf]; omega
        · rw [decide_eq_false hp] at hS
          have HN := Lib.hid (HMISS.out hp)
          clear hp HHIT HMISS
          go_upto_region 7 with fail
          rw [← hwb]
          clear hwb d0 d1 d2 d3 d4 d5 d6 d7 d8 d9
          go_wp2_with fail
          go_roundw
          case rel => exact ⟨k + 1, by omega, by go_num, by rw [HN.out]; exact hrowa, hbz⟩
          case measure => simp [intOf]; omega
      · have hkn : k = l.length := by omega
        subst hkn
        go_wp2_with fail
        go_ret
        exact ⟨_, rfl, by rw [HK.out]; exact own_base hrow (fun g hg => Nat.le_trans hz1 (World.ownsRow.lt hrow g hg).1), HB1.out.trans (hb.mono hz1)⟩
theorem srow_ne_rec {base : Nat} {w : World} {v : Value} {l : List (List UInt8)} {b : Nat} {r : Rk.R} (h : SRow base w v l) (hb : w.heap[b]? = some (.cells (recCs r) 30 (0, 0))) : some b ≠ v.ownBlock := by
  intro e
  rcases h.2 with ⟨rfl, _⟩ | ⟨g, cap, cur, rfl, _, hg, _⟩
  · simp [Value.ownBlock] at e
  · simp [Value.ownBlock] at e
    subst e
    rw [hb] at hg
    injection hg with hg
    injection hg with _ hg _
    exact absurd hg (by decide)
def sliceLen : Value → Nat
  | .slice _ n _ => n
  | _ => 0
theorem srow_len {base : Nat} {w : World} {v : Value} {l : List (List UInt8)} (h : SRow base w v l) : sliceLen v = l.length := by
  rcases h.2 with ⟨rfl, hn⟩ | ⟨g, cap, cur, rfl, _⟩
  · rw [hn]; rfl
  · rfl
set_option maxHeartbeats 3200000 in
theorem path_any {G : Nat → Prop} {w : World} {T room m : Nat} {l : List Rk.R} (n : List UInt8) (hg : Tr.Good m l) (h : TreeAt G w T room l) (hl : l.length ≤ 1048576) :
    Calls Tryz.prog 23 #[.pointer (some ⟨T, 0, none⟩), .string (S n)] w fun e w' => ∃ v, e = .returned v ∧ SRow w.heap.size w' v (Tr.path l n) ∧ Below w.heap.size w w' := by
  have HGET := Lib.hid (fun (c : List UInt8) (w' : World) (hb : Below w.heap.size w w') => get_any c (h.keep hb) hl)
  have hG0 := HGET.out n w (Below.refl _ _)
  have HGD := Lib.hid hg
  clear h hg
  unfold recV at hG0
  obtain ⟨x, hx⟩ : ∃ x, x = getR l n := ⟨_, rfl⟩
  obtain ⟨q, hq⟩ : ∃ q, q = Tr.has l n := ⟨_, rfl⟩
  rw [← hx, ← hq] at hG0
  have HX := Lib.hid (And.intro hx hq)
  clear hx hq
  go_enter Tryz.func23, Tryz.ntmps23
  go_wp2_with fail
  refine hG0.mono ?_
  rintro e w1 ⟨rfl, hb1⟩
  have hz1 := hb1.size
  have hba : Below w1.heap.size w1 (w1.alloc (.cells (recCs x) 30)) := (Below.refl _ _).alloc (Nat.le_refl _) _
  have hblk := heap_alloc_new w1 (.cells (recCs x) 30)
  have hbw := hb1.trans (hba.mono hz1)
  unfold recCs at hbw hblk
  obtain ⟨wb, hwb⟩ : ∃ wb, wb = w1.alloc (.cells #[.int .i64 x.kind, .string (S x.name), .string (S x.parent), .string (S x.user), .string (S x.service), .string (S x.url), .int .i64 x.made, .int .i64 x.used, .int .i64 x.uses, .bool x.fresh] 30) := ⟨_, rfl⟩
  rw [← hwb] at hbw hblk
  clear hG0 hb1 hba
  go_upto_region 3 with fail
  rw [← hwb]
  clear hwb
  go_loopw [5, 6, 7] (fun vs vp vo wr => ∃ (acc : List (List UInt8)) (cur : List UInt8) (b : Nat), SRow w.heap.size wr vs acc ∧ vp = .pointer (some ⟨b, 0, none⟩) ∧ vo = .bool (Tr.has l cur) ∧ wr.heap[b]? = some (.cells (recCs (getR l cur)) 30 (0, 0)) ∧ w.heap.size ≤ b ∧ Below w.heap.size w wr ∧ Hid ((∃ f, Tr.path l n = acc ++ Tr.pth l f cur ∧ (Tr.pl l cur < l.length → Tr.pl l cur < f)) ∧ (Tr.pl l cur < l.length → acc.length + Tr.pl l cur < l.length) ∧ acc.length ≤ l.length)) (fun vs _ vo _ => (l.length - sliceLen vs) + boolN vo)
  case atStart => exact ⟨[], n, w1.heap.size, World.ownsRow_nil _ _ _ _, rfl, by rw [HX.out.2], by rw [← HX.out.1]; exact hblk, hz1, hbw, Lib.hid ⟨⟨l.length, rfl, fun h => h⟩, fun h => by simpa using h, by simp⟩⟩
  case round =>
    clear hblk hbw HX
    obtain ⟨acc, cur, b, hrow, rfl, rfl, hblk, hbb, hb, hh⟩ := hrel
    have hbs := hb.size
    by_cases hc : Tr.pl l cur < l.length
    · have hq : Tr.has l cur = true := Tr.has_iff.2 hc
      rw [hq]
      have hgr : getR l cur = l[Tr.pl l cur] := by unfold getR; rw [dif_pos hc]
      have hnm := Tr.pl_name hc
      have hup := HGD.out.up_at hc
      rw [hgr] at hblk
      obtain ⟨⟨f, hf1, hf2⟩, hf3, hf4⟩ := hh.out
      have hf2 := hf2 hc
      have hf3 := hf3 hc
      obtain ⟨f', rfl⟩ : ∃ f', f = f' + 1 := ⟨f - 1, by omega⟩
      rw [Tr.pth, dif_pos hc] at hf1
      have HN : Hid ((∃ f, Tr.path l n = (acc ++ [cur]) ++ Tr.pth l f l[Tr.pl l cur].parent ∧ (Tr.pl l l[Tr.pl l cur].parent < l.length → Tr.pl l l[Tr.pl l cur].parent < f)) ∧ (Tr.pl l l[Tr.pl l cur].parent < l.length → (acc ++ [cur]).length + Tr.pl l l[Tr.pl l cur].parent < l.length) ∧ (acc ++ [cur]).length ≤ l.length) := Lib.hid (by
        rw [List.length_append, List.length_singleton]
        refine ⟨⟨f', by rw [hf1]; simp, fun h => ?_⟩, fun h => ?_, by omega⟩
        · rcases hup with h1 | h1
          · exact absurd h1 (HGD.out.nm h)
          · omega
        · rcases hup with h1 | h1
          · exact absurd h1 (HGD.out.nm h)
          · omega)
      have hacc : acc.length < l.length := by omega
      clear hh hf1 hf2 hf3 hf4 hup hgr hq
      generalize l[Tr.pl l cur] = y at hblk hnm HN
      subst hnm
      clear hc
      have hblt : b < wr.heap.size := (Array.getElem?_eq_some_iff.1 hblk).1
      have hne := srow_ne_rec hrow hblk
      have hsl := srow_len hrow
      obtain ⟨z, hz⟩ : ∃ z, z = getR l y.parent := ⟨_, rfl⟩
      obtain ⟨qq, hqq⟩ : ∃ qq, qq = Tr.has l y.parent := ⟨_, rfl⟩
      have HGP := HGET.out y.parent
      rw [← hz, ← hqq] at HGP
      unfold recV at HGP
      have HZ := Lib.hid (And.intro hz hqq)
      have HBLK := Lib.hid hblk
      have HGP := Lib.hid HGP
      obtain ⟨d0, d1, d2, d3, d4, d5, d6, d7, d8, d9⟩ := recAt_blk hblk
      clear hz hqq hblk HGET
      go_wp2_with (at_builtin; refine wpList_name rfl (.tmp 22) (.tmp 25) w.heap.size wr.heap.size _ acc y.name rfl rfl rfl (World.ownsRow.alloc hrow _) (heap_alloc_new wr _) (by omega) (by rw [World.size_alloc]; omega) ?_; intro g cg w6 hown6 hgr6 _ hb6; have hblk6 : w6.heap[b]? = some (.cells (recCs y) 30 (0, 0)) := (hgr6.block b (by rw [World.size_alloc]; omega) hne).trans ((Below.heap_alloc wr _ b hblt).trans HBLK.out); obtain ⟨d0, d1, d2, d3, d4, d5, d6, d7, d8, d9⟩ := recAt_blk hblk6)
      have hbw6 : Below w.heap.size w w6 := (hb.alloc hbs _).trans hb6
      have hz6 := hbw6.size
      have hba : Below w6.heap.size w6 (w6.alloc (.cells (recCs y) 30)) := (Below.refl _ _).alloc (Nat.le_refl _) _
      have hblkB := heap_alloc_new w6 (.cells (recCs y) 30)
      have hltB : w6.heap.size < (w6.alloc (.cells (recCs y) 30)).heap.size := by simp
      unfold recCs at hba hblkB hltB
      clear d0 d1 d2 d3 d4 d5 d6 d7 d8 d9
      generalize w6.alloc (.cells #[.int .i64 y.kind, .string (S y.name), .string (S y.parent), .string (S y.user), .string (S y.service), .string (S y.url), .int .i64 y.made, .int .i64 y.used, .int .i64 y.uses, .bool y.fresh] 30) = wb at hba hblkB hltB ⊢
      refine (HGP.out wb (hbw6.trans (hba.mono hz6))).mono ?_
      rintro e w8 ⟨rfl, hb8⟩
      have hblk8 : w8.heap[w6.heap.size]? = some (.cells (recCs y) 30 (0, 0)) := (hb8.block _ hltB).trans hblkB
      have hfz := frozenR hblk8
      have hlt8 : w6.heap.size < w8.heap.size := (Array.getElem?_eq_some_iff.1 hblk8).1
      have hrow8 : SRow w.heap.size (layR w8 w6.heap.size z) (.slice (some ⟨g, 0, none⟩) (acc.length + 1) cg) (acc ++ [y.name]) := own_kept (own_below (own_below hown6 hba) hb8) (fun k hk => by
        have hk6 := (World.ownsRow.lt hown6 k hk).2
        exact layR_other w8 w6.heap.size z k (by omega))
      have hbl8 := layR_blk z hblk8
      have hbf : Below w.heap.size w (layR w8 w6.heap.size z) := ((hbw6.trans (hba.mono hz6)).trans (hb8.mono (Nat.le_trans hz6 hba.size))).grown (layR_grown w8 w6.heap.size z) (by have := hb8.size; have := hba.size; omega) (fun k hk => by cases hk; exact hz6)
      have HF := Lib.hid (And.intro hrow8 (And.intro hbl8 hbf))
      obtain ⟨d0, d1, d2, d3, d4, d5, d6, d7, d8, d9⟩ := recAt_blk hblk8
      clear hrow8 hbl8 hbf hb8 hblk8 hba hblkB hltB hown6 hgr6 hb6 hblk6 hbw6
      go_wp2_with fail
      go_roundw
      case rel => exact ⟨acc ++ [y.name], y.parent, w6.heap.size, HF.out.1, rfl, by rw [HZ.out.2], by rw [← HZ.out.1]; exact HF.out.2.1, hz6, HF.out.2.2, HN⟩
      case measure =>
        have hq1 : boolN (.bool qq) ≤ 1 := by cases qq <;> decide
        show (l.length - (acc.length + 1)) + boolN (.bool qq) < (l.length - sliceLen _) + 1
        omega
    · have hq : Tr.has l cur = false := by
        unfold Tr.has
        rw [decide_eq_false hc]
      rw [hq]
      have HF : Hid (Tr.path l n = acc) := Lib.hid (by
        obtain ⟨f, hf1, _⟩ := hh.out.1
        rw [hf1, Tr.pth_none hc, List.append_nil])
      go_wp2_with fail
      go_ret
      exact ⟨_, rfl, by rw [HF.out]; exact hrow, hb⟩
end Go.Proofs.YtfeaonbeklmfgaaGreatDoor
