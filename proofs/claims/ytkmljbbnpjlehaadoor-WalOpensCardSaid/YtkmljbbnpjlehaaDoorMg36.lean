/- The document's own Open of a log, on a disk of its own on which nothing is staged. Condition: the table of sums reads as its text lays it. The statements' own same: a log and its disk beside the document's. Condition: the table of sums reads as its text lays it. -/
import Derived.Test.YtkmljbbnpjlehaaDoorMg34
import Derived.Test.YtkmljbbnpjlehaaDoorMg35
import Derived.Test.YtkmljbbnpjlehaaDoorMg32
namespace Go.Proofs.YtkmljbbnpjlehaaDoor
set_option maxRecDepth 8000
open Go.RowKit

theorem S_inj {a b : List UInt8} (h : (S a).toList = (S b).toList) : a = b := by
  have e : ∀ l : List UInt8, (S l).toList = l := S_list
  rw [← e a, h, e b]
/-- A log of the document's own in memory. -/
def rlC (P : Nat) (h : Wl.Hd) (v : Value) : Array Value := #[.pointer (some ⟨P, 0, none⟩), .int .i64 (h.gen : Int), .int .i64 (h.area : Int), .int .i64 (h.used : Int), v]
def ROpenPost (w : World) (P : Nat) (r : Except Nat Wl.L) (e : Ending) (w' : World) : Prop :=
  Below w.heap.size w w' ∧ match r with
  | .error k => e = .returned (.tuple #[.pointer none, .int .i64 (k : Int)])
  | .ok l => ∃ L A m c cs, e = .returned (.tuple #[.pointer (some ⟨L, 0, none⟩), .int .i64 0]) ∧ w.heap.size ≤ L ∧ w'.heap[L]? = some (.cells (rlC P ⟨l.gen, l.area, l.fr.length⟩ (.slice A m c)) 111 (0, 0)) ∧ LRow w.heap.size w' A m c (Fr.scan l.fr).1 cs

theorem rl_three {w : World} {g P : Nat} {h : Wl.Hd} {v : Value} (hg : w.heap[g]? = some (.cells (rlC P h v) 111 (0, 0))) (a b c : Int) : (((w.setCell ⟨g, 1, none⟩ (.int .i64 a)).setCell ⟨g, 2, none⟩ (.int .i64 b)).setCell ⟨g, 3, none⟩ (.int .i64 c)).heap[g]? = some (.cells #[.pointer (some ⟨P, 0, none⟩), .int .i64 a, .int .i64 b, .int .i64 c, v] 111 (0, 0)) :=
  heap_setCell_same _ g 3 _ _ _ (heap_setCell_same _ g 2 _ _ _ (heap_setCell_same _ g 1 _ _ _ hg))
theorem rl_list {w : World} {g P : Nat} {h : Wl.Hd} {v : Value} (hg : w.heap[g]? = some (.cells (rlC P h v) 111 (0, 0))) (u : Value) : (w.setCell ⟨g, 4, none⟩ u).heap[g]? = some (.cells (rlC P h u) 111 (0, 0)) := heap_setCell_same _ g 4 _ _ _ hg
theorem step_append_bytes {w : World} {ops : Array Oper} {o : Oper} {a : Act} {K : Act → World → Prop} {Q : Exit → Act → World → Prop} {E : Prop} (hgd : o.guard = none) (s x : Operand)
    (ho : o.op = .call { callee := .builtin .append, args := #[s, x], argTypes := #[36, 36] })
    (base : Nat) (v : Value) (A : Option Addr) (c n : Nat) (l m : List UInt8) (hs : a.eval s = v) (hn : m.length = n) (hx : a.eval x = .slice A n c) (hrow : Row base w v l) (hr : BC w A m) (hl : l.length + m.length ≤ 16777216) (hbase : base ≤ w.heap.size)
    (h : ∀ v' w', Row base w' v' (l ++ m) → w.grownBy w' v.ownBlock → K (a.put o.dst v') w') : if Region.wanted o (yielded ops a.tmps) = true then Oper.wp Tryd.prog o a w K Q else E := by
  rw [if_pos (by simp [Region.wanted, hgd])]
  subst hn
  obtain ⟨v', w', hr2, h2, h3⟩ := run_append_bytes w o.type base v A c l m hrow hr hl hbase
  unfold Oper.wp execOp
  simp only [ho, resolve, invoke, builtin, Sem.run_bind, Sem.run_pure, Result.andThen_ok, List.map_toArray, List.map_cons, List.map_nil, hs, hx, hr2]
  exact h v' w' h2 h3

set_option maxHeartbeats 6400000 in
theorem refOpen_any (w : World) (b : Rm) (d : Dk.D) (h : RAt w b d) (ht : RThere w b) (hst : d.st = []) :
    Calls Tryd.prog 17 #[.pointer (some ⟨b.P, 0, none⟩)] w (ROpenPost w b.P (Wl.openK d.n d.kept)) := by
  have HLN := Lib.hid (ref_len_any w b d h)
  have hok := h.ok
  by_cases h4 : d.n < 4
  · have HX : Hid (Wl.openK d.n d.kept = .error 1) := Lib.hid (by unfold Wl.openK; rw [if_pos h4])
    obtain ⟨n, hn⟩ : ∃ n, n = d.n := ⟨_, rfl⟩
    rw [← hn] at HLN HX h4 ⊢
    rw [HX.out]
    have h4I : (n : Int) < 4 := by omega
    clear HX hn
    go_enter Tryd.func17, Tryd.ntmps17
    go_wp2_with fail
    refine HLN.out.mono ?_
    rintro _ _ ⟨rfl, rfl⟩
    go_wp2_with fail
    go_ret2
    exact ⟨Below.refl _ _, rfl⟩
  · obtain ⟨n, hn⟩ : ∃ n, n = d.n := ⟨_, rfl⟩
    have HN := Lib.hid hn
    have HR := Lib.hid (And.intro h ht)
    rw [← hn] at HLN h4 ⊢
    have h4I : ¬ (n : Int) < 4 := by omega
    clear hn h ht
    go_enter Tryd.func17, Tryd.ntmps17
    go_wp2_with fail
    refine HLN.out.mono ?_
    rintro _ _ ⟨rfl, rfl⟩
    go_wp2_with fail
    have hba : Below w.heap.size w (w.alloc (.cells #[.pointer (some ⟨b.P, 0, none⟩), .int .i64 0, .int .i64 0, .int .i64 0, .slice none 0 0] 111)) := (Below.refl _ _).alloc (Nat.le_refl _) _
    have hbl : (w.alloc (.cells #[.pointer (some ⟨b.P, 0, none⟩), .int .i64 0, .int .i64 0, .int .i64 0, .slice none 0 0] 111)).heap[w.heap.size]? = some (.cells (rlC b.P (Wl.seenTo n d.kept 0) (.slice none 0 0)) 111 (0, 0)) := heap_alloc_new w _
    have HA := Lib.hid (And.intro hba hbl)
    obtain ⟨g, hg⟩ : ∃ g, g = w.heap.size := ⟨_, rfl⟩
    have HG := Lib.hid hg
    rw [← hg] at HA ⊢
    clear hba hbl hg HLN
    go_loopw [5] (fun iv wr => ∃ i : Nat, i ≤ 2 ∧ iv = .int .i64 (i : Int) ∧ Below g w wr ∧ wr.heap[g]? = some (.cells (rlC b.P (Wl.seenTo n d.kept i) (.slice none 0 0)) 111 (0, 0))) (fun iv _ => 2 - (intOf iv).toNat)
    case atStart => exact ⟨0, by omega, rfl, HA.out.1, HA.out.2⟩
    case round =>
      obtain ⟨i, hi, rfl, hb, hgl⟩ := hrel
      by_cases hi2 : i < 2
      · have hiI : (i : Int) < 2 := by omega
        have hRA := HR.out.1.same (w' := wr) (fun x hx => hb.block x (by rw [HG.out]; exact HR.out.2.all x hx))
        have hRT := HR.out.2.more hb.size
        have hbl32 : (Dk.blk d.kept i).length = 32 := Dk.blk_len hok.kept (by have := HN.out; omega)
        have HRD := Lib.hid (ref_read_cap wr b d i hRA hRT (by have := HN.out; omega) (by rw [hst]; exact Nat.zero_le _))
        have HSZ := Lib.hid (fun (wx : World) (hx : Below wr.heap.size wr wx) => refSize_any wx b d (hRA.same (fun x hx' => hx.block x (hRT.all x hx'))) (by have := HN.out; omega))
        rw [hst] at HRD
        obtain ⟨y, hy⟩ : ∃ y, y = Dk.blk d.kept i := ⟨_, rfl⟩
        have HY := Lib.hid hy
        have HB := Lib.hid hb
        have HGL := Lib.hid hgl
        rw [← hy] at HRD hbl32
        have HL := Lib.hid hbl32
        clear hy hb hgl hRA hRT hbl32
        go_wp2_with fail
        refine HRD.out.mono ?_
        rintro _ _ ⟨⟨A, c, rfl, hcc, hA⟩, rfl⟩
        have c8 : (8 : Int) ≤ (c : Int) := by omega
        obtain ⟨q, o, rfl, hql, hqc⟩ := hA (by rw [show Dk.seen i y [] = y from rfl, HL.out]; omega)
        have HC : Hid (∀ k (h : k < y.length), wr.cell? ⟨q, o + k, none⟩ = some (B y[k])) := Lib.hid hqc
        clear hA hqc HRD
        go_wp2_with fail
        go_loop [7, 8] (fun nv kv => ∃ j : Nat, j ≤ 4 ∧ kv = .int .i64 ((4 + j : Nat) : Int) ∧ nv = .int .i64 (Wl.numTo (y.drop 4) j : Int)) (fun _ kv => 8 - (intOf kv).toNat)
        case atStart => exact ⟨0, by omega, rfl, by rw [Wl.numTo_zero]; rfl⟩
        case round =>
          obtain ⟨j, hj, rfl, rfl⟩ := hrel
          by_cases hj4 : j < 4
          · have hky : 4 + j < y.length := by have := HL.out; omega
            have c0 := HC.out (4 + j) hky
            rw [B] at c0
            have hdj : j < (y.drop 4).length := by rw [List.length_drop]; omega
            have hnx := Wl.numTo_succ (y.drop 4) hdj
            rw [List.getElem_drop] at hnx
            have hx := y[4 + j].toNat_lt
            obtain ⟨x, hxx⟩ : ∃ x, x = y[4 + j].toNat := ⟨_, rfl⟩
            rw [← hxx] at c0 hnx hx
            have hlt : Wl.numTo (y.drop 4) j < 16777216 := Nat.lt_of_lt_of_le (Wl.numTo_lt _ j) (by
              have : 256 ^ j ≤ 256 ^ 3 := Nat.pow_le_pow_right (by decide) (by omega)
              exact this)
            obtain ⟨N, hN⟩ : ∃ N, N = Wl.numTo (y.drop 4) j := ⟨_, rfl⟩
            rw [← hN] at hnx hlt ⊢
            have HNX := Lib.hid hnx
            obtain ⟨k, hk⟩ : ∃ k, k = 4 + j := ⟨_, rfl⟩
            have HK := Lib.hid hk
            rw [← hk] at c0 ⊢
            have k0 : (0 : Int) ≤ (k : Int) := by omega
            have k8 : (k : Int) < 8 := by omega
            have k32 : (k : Int) < 32 := by omega
            have w1 : IntKind.i64.wrap (256 * (N : Int)) = 256 * (N : Int) := IntWalk.i64_in _ (by omega)
            have w2 : IntKind.i64.wrap (256 * (N : Int) + (x : Int)) = 256 * (N : Int) + (x : Int) := IntWalk.i64_in _ (by omega)
            clear hnx hdj hxx hN hk hky
            go_wp2_with fail
            go_round
            case rel => exact ⟨j + 1, by omega, by have := HK.out; go_num, by rw [HNX.out]; push_cast; rfl⟩
            case measure => simp [intOf]; omega
          · have hj4' : j = 4 := by omega
            subst hj4'
            have HNF : Hid (Wl.numTo (y.drop 4) 4 = Wl.num (y.drop 4)) := Lib.hid (Wl.numTo_four (by rw [List.length_drop]; have := HL.out; omega))
            rw [HNF.out]
            obtain ⟨N, hN⟩ : ∃ N, N = Wl.num (y.drop 4) := ⟨_, rfl⟩
            have hlt : N < 4294967296 := by rw [hN]; exact Wl.num_lt _
            rw [← hN]
            have HNN := Lib.hid hN
            have HHD := Lib.hid (fun (wx : World) => show Calls Tryd.prog 26 #[.int .i64 ((N : Int) / 16384), .int .i64 ((N : Int) / 8192 % 2), .int .i64 ((N : Int) % 8192)] wx (OwnPost wx 8 (Wl.head (N / 16384) (N / 8192 % 2) (N % 8192))) from by
              have e := refHead_any wx (N / 16384) (N / 8192 % 2) (N % 8192) (by omega) (by omega) (by omega)
              rw [show ((N / 16384 : Nat) : Int) = (N : Int) / 16384 by omega, show ((N / 8192 % 2 : Nat) : Int) = (N : Int) / 8192 % 2 by omega, show ((N % 8192 : Nat) : Int) = (N : Int) % 8192 by omega] at e
              exact e)
            clear hN
            have HIS : Hid ((Wl.head (N / 16384) (N / 8192 % 2) (N % 8192) = y.take 8) ↔ Wl.right y) := Lib.hid (by rw [HNN.out]; exact Wl.head_is (by have := HL.out; omega))
            have hy8 : BCells wr wr.heap.size (some ⟨q, o, none⟩) (y.take 8) := fun _ => ⟨q, o, rfl, hql, fun k hk => by
              rw [List.length_take] at hk
              rw [HC.out k (by omega), List.getElem_take]⟩
            have hl8 : (y.take 8).length = 8 := by rw [List.length_take, HL.out]; rfl
            have HCV := Lib.hid (fun (wx : World) (hx : Below wr.heap.size wr wx) => (by
              have e := bin_string wx (some ⟨q, o, none⟩) (y.take 8) c (hy8.next hx)
              rw [hl8] at e
              exact e : (convert 36 9 (.slice (some ⟨q, o, none⟩) 8 c)).run Tryd.prog wx = .ok (.string (S (y.take 8))) wx))
            have HHL : Hid (∀ g a u, (Wl.head g a u).length = 8) := Lib.hid (fun _ _ _ => rfl)
            have HCG : Hid (∀ wx, Below wr.heap.size wr wx → wx.cell? ⟨g, 1, none⟩ = some (.int .i64 ((Wl.seenTo n d.kept i).gen : Int))) := Lib.hid (fun wx hx => cell_of_row wx _ 1 _ _ _ ((hx.block _ (Array.getElem?_eq_some_iff.1 HGL.out).1).trans HGL.out))
            obtain ⟨hd, hhd⟩ : ∃ hd, hd = Wl.head (N / 16384) (N / 8192 % 2) (N % 8192) := ⟨_, rfl⟩
            rw [← hhd] at HHD HIS
            have HHL8 : Hid (hd.length = 8) := Lib.hid (by rw [hhd]; rfl)
            obtain ⟨y8, hy8e⟩ : ∃ y8, y8 = y.take 8 := ⟨_, rfl⟩
            rw [← hy8e] at HIS HCV
            have hbd : Below wr.heap.size wr wr.drew := (Below.refl _ _).drew
            clear hy8 hl8 hhd hy8e
            obtain ⟨ab, hab⟩ : ∃ ab, ab = Wl.areaBytes n := ⟨_, rfl⟩
            rw [← HN.out, ← hab] at HSZ
            have habl : ab < 8192 := by rw [hab]; exact Wl.areaBytes_lt (by have := hok.n; have := HN.out; omega)
            obtain ⟨gq, hgq⟩ : ∃ gq, gq = (Wl.seenTo n d.kept i).gen := ⟨_, rfl⟩
            rw [← hgq] at HCG
            have HGQ := Lib.hid hgq
            have HAB := Lib.hid hab
            have HK := Lib.hid (fun (wx : World) (hx : Below wr.heap.size wr wx) => And.intro (HCV.out wx hx) (And.intro (HCG.out wx hx) hx))
            have HRW : Hid (wr.heap[g]? = some (.cells (rlC b.P (Wl.seenTo n d.kept i) (.slice none 0 0)) 111 (0, 0))) := Lib.hid HGL.out
            have cn1 : ¬ (c : Int) = 0 := by omega
            have cn2 : (0 : Int) < (c : Int) := by omega
            clear hab hgq HHL HC HCV HCG HGL hql
            go_upto_region 16 with fail
            go_cut [76] (fun t wx => t = .bool (decide (Wl.right y ∧ N / 16384 % 2 = i ∧ N % 8192 ≤ ab ∧ gq ≤ N / 16384)) ∧ Below wr.heap.size wr wx)
            case first =>
              by_cases hr : Wl.right y
              · have hcmp : ((S hd).toList == (S y8).toList) = true := by rw [HIS.out.2 hr]; simp
                have hcmp4 : (hd == y8) = true := by rw [HIS.out.2 hr]; simp
                by_cases hm : N / 16384 % 2 = i
                · have hmI : ((N : Int) / 16384).tmod 2 = (i : Int) := by
                    rw [Int.tmod_eq_emod_of_nonneg (by omega)]
                    omega
                  by_cases hu : N % 8192 ≤ ab
                  · have huI : (N : Int) % 8192 ≤ (ab : Int) := by omega
                    by_cases hq : gq ≤ N / 16384
                    · have hqI : (gq : Int) ≤ (N : Int) / 16384 := by omega
                      have HFIN : Hid (decide (Wl.right y ∧ N / 16384 % 2 = i ∧ N % 8192 ≤ ab ∧ gq ≤ N / 16384) = true) := Lib.hid (decide_eq_true ⟨hr, hm, hu, hq⟩)
                      clear hr HIS hm hu hq
                      refine wp_region_held_drew (S := fun wx => (convert 36 9 (.slice (some ⟨q, o, none⟩) 8 c)).run Tryd.prog wx = .ok (.string (S y8)) wx ∧ wx.cell? ⟨g, 1, none⟩ = some (.int .i64 (gq : Int)) ∧ Below wr.heap.size wr wx) (by kernel_rfl) (HK.out _ hbd) (fun hHeld => ?_)
                      refine wpAnyH_take (i := 0) (oi := ⟨some 48, _, _, _, _, _⟩) (v := ?_) rfl (by kernel_rfl) (by kernel_rfl) (by kernel_rfl) (fun _ _ _ h => h) (Or.inl ⟨by rfl, ?_⟩) (by assumption) ?_
                      rotate_left
                      · intro w hSw
                        (try dsimp only at hSw)
                        (try go_split_ands)
                        go_simp
                        with_reducible rfl
                      try simp only [Act.put, List.setIfInBounds_toArray, List.set_cons_zero, List.set_cons_succ]
                      refine wpAnyH_take (i := 1) (oi := ⟨some 49, _, _, _, _, _⟩) (v := ?_) rfl (by kernel_rfl) (by kernel_rfl) (by kernel_rfl) (fun _ _ _ h => h) (Or.inl ⟨by rfl, ?_⟩) (by assumption) ?_
                      rotate_left
                      · intro w hSw
                        (try dsimp only at hSw)
                        (try go_split_ands)
                        go_simp
                        with_reducible rfl
                      try simp only [Act.put, List.setIfInBounds_toArray, List.set_cons_zero, List.set_cons_succ]
                      refine wpAnyH_take (i := 2) (oi := ⟨some 50, _, _, _, _, _⟩) (v := ?_) rfl (by kernel_rfl) (by kernel_rfl) (by kernel_rfl) (fun _ _ _ h => h) (Or.inl ⟨by rfl, ?_⟩) (by assumption) ?_
                      rotate_left
                      · intro w hSw
                        (try dsimp only at hSw)
                        (try go_split_ands)
                        go_simp
                        with_reducible rfl
                      try simp only [Act.put, List.setIfInBounds_toArray, List.set_cons_zero, List.set_cons_succ]
                      refine wpAnyH_take (i := 5) (oi := ⟨some 53, _, _, _, _, _⟩) (v := ?_) rfl (by kernel_rfl) (by kernel_rfl) (by kernel_rfl) (fun _ _ _ h => h) (Or.inl ⟨by rfl, ?_⟩) (by assumption) ?_
                      rotate_left
                      · intro w hSw
                        (try dsimp only at hSw)
                        (try go_split_ands)
                        go_simp
                        with_reducible rfl
                      try simp only [Act.put, List.setIfInBounds_toArray, List.set_cons_zero, List.set_cons_succ]
                      refine wpAnyH_take (i := 6) (oi := ⟨some 54, _, _, _, _, _⟩) (v := ?_) rfl (by kernel_rfl) (by kernel_rfl) (by kernel_rfl) (fun _ _ _ h => h) (Or.inl ⟨by rfl, ?_⟩) (by assumption) ?_
                      rotate_left
                      · intro w hSw
                        (try dsimp only at hSw)
                        (try go_split_ands)
                        go_simp
                        with_reducible rfl
                      try simp only [Act.put, List.setIfInBounds_toArray, List.set_cons_zero, List.set_cons_succ]
                      refine wpAnyH_take (i := 7) (oi := ⟨some 55, _, _, _, _, _⟩) (v := ?_) rfl (by kernel_rfl) (by kernel_rfl) (by kernel_rfl) (fun _ _ _ h => h) (Or.inl ⟨by rfl, ?_⟩) (by assumption) ?_
                      rotate_left
                      · intro w hSw
                        (try dsimp only at hSw)
                        (try go_split_ands)
                        go_simp
                        with_reducible rfl
                      try simp only [Act.put, List.setIfInBounds_toArray, List.set_cons_zero, List.set_cons_succ]
                      refine wpAnyH_ready (rs := [3]) (by kernel_rfl) (by simp) ?_
                      refine AllReadyH.cons (o := ⟨some 51, _, _, _, _, _⟩) rfl (fun K hK => ?_) AllReadyH.nil
                      go_simp
                      go_at_call 26
                      refine (HHD.out wr.drew).mono ?_
                      rintro e w5 ⟨A5, c5, rfl, hrow5, hb5⟩
                      have hbe5 := hbd.trans (hb5.mono hbd.size)
                      have ch5 := bin_string w5 A5 hd c5 (row_cells hrow5)
                      rw [HHL8.out] at ch5
                      clear hrow5 hb5
                      refine hK.out _ _ ?_ (fun hHeld => ?_)
                      · exact HK.out _ hbe5
                      clear hK K
                      try simp only [Act.put, List.setIfInBounds_toArray, List.set_cons_zero, List.set_cons_succ]
                      refine wpAnyH_ready (rs := [4]) (by kernel_rfl) (by simp) ?_
                      refine AllReadyH.cons (o := ⟨some 52, _, _, _, _, _⟩) rfl (fun K hK => ?_) AllReadyH.nil
                      go_simp
                      refine hK.out _ _ ?_ (fun hHeld => ?_)
                      · exact HK.out _ hbe5
                      clear hK K
                      try simp only [Act.put, List.setIfInBounds_toArray, List.set_cons_zero, List.set_cons_succ]
                      refine wpAnyH_take (i := 8) (oi := ⟨some 56, _, _, _, _, _⟩) (v := ?_) rfl (by kernel_rfl) (by kernel_rfl) (by kernel_rfl) (fun _ _ _ h => h) (Or.inl ⟨by rfl, ?_⟩) (by assumption) ?_
                      rotate_left
                      · intro w hSw
                        (try dsimp only at hSw)
                        (try go_split_ands)
                        go_simp
                        with_reducible rfl
                      try simp only [Act.put, List.setIfInBounds_toArray, List.set_cons_zero, List.set_cons_succ]
                      refine wpAnyH_take (i := 9) (oi := ⟨some 57, _, _, _, _, _⟩) (v := ?_) rfl (by kernel_rfl) (by kernel_rfl) (by kernel_rfl) (fun _ _ _ h => h) (Or.inl ⟨by rfl, ?_⟩) (by assumption) ?_
                      rotate_left
                      · intro w hSw
                        (try dsimp only at hSw)
                        (try go_split_ands)
                        go_simp
                        with_reducible rfl
                      try simp only [Act.put, List.setIfInBounds_toArray, List.set_cons_zero, List.set_cons_succ]
                      refine wpAnyH_take (i := 10) (oi := ⟨some 58, _, _, _, _, _⟩) (v := ?_) rfl (by kernel_rfl) (by kernel_rfl) (by kernel_rfl) (fun _ _ _ h => h) (Or.inl ⟨by rfl, ?_⟩) (by assumption) ?_
                      rotate_left
                      · intro w hSw
                        (try dsimp only at hSw)
                        (try go_split_ands)
                        go_simp
                        with_reducible rfl
                      try simp only [Act.put, List.setIfInBounds_toArray, List.set_cons_zero, List.set_cons_succ]
                      refine wpAnyH_take (i := 11) (oi := ⟨some 59, _, _, _, _, _⟩) (v := ?_) rfl (by kernel_rfl) (by kernel_rfl) (by kernel_rfl) (fun _ _ _ h => h) (Or.inl ⟨by rfl, ?_⟩) (by assumption) ?_
                      rotate_left
                      · intro w hSw
                        (try dsimp only at hSw)
                        (try go_split_ands)
                        go_simp
                        with_reducible rfl
                      try simp only [Act.put, List.setIfInBounds_toArray, List.set_cons_zero, List.set_cons_succ]
                      refine wpAnyH_take (i := 12) (oi := ⟨some 60, _, _, _, _, _⟩) (v := ?_) rfl (by kernel_rfl) (by kernel_rfl) (by kernel_rfl) (fun _ _ _ h => h) (Or.inl ⟨by rfl, ?_⟩) (by assumption) ?_
                      rotate_left
                      · intro w hSw
                        (try dsimp only at hSw)
                        (try go_split_ands)
                        go_simp
                        with_reducible rfl
                      try simp only [Act.put, List.setIfInBounds_toArray, List.set_cons_zero, List.set_cons_succ]
                      refine wpAnyH_take (i := 13) (oi := ⟨some 61, _, _, _, _, _⟩) (v := ?_) rfl (by kernel_rfl) (by kernel_rfl) (by kernel_rfl) (fun _ _ _ h => h) (Or.inl ⟨by rfl, ?_⟩) (by assumption) ?_
                      rotate_left
                      · intro w hSw
                        (try dsimp only at hSw)
                        (try go_split_ands)
                        go_simp
                        with_reducible rfl
                      try simp only [Act.put, List.setIfInBounds_toArray, List.set_cons_zero, List.set_cons_succ]
                      refine wpAnyH_take (i := 14) (oi := ⟨some 62, _, _, _, _, _⟩) (v := ?_) rfl (by kernel_rfl) (by kernel_rfl) (by kernel_rfl) (fun _ _ _ h => h) (Or.inl ⟨by rfl, ?_⟩) (by assumption) ?_
                      rotate_left
                      · intro w hSw
                        (try dsimp only at hSw)
                        (try go_split_ands)
                        go_simp
                        with_reducible rfl
                      try simp only [Act.put, List.setIfInBounds_toArray, List.set_cons_zero, List.set_cons_succ]
                      refine wpAnyH_take (i := 15) (oi := ⟨some 63, _, _, _, _, _⟩) (v := ?_) rfl (by kernel_rfl) (by kernel_rfl) (by kernel_rfl) (fun _ _ _ h => h) (Or.inl ⟨by rfl, ?_⟩) (by assumption) ?_
                      rotate_left
                      · intro w hSw
                        (try dsimp only at hSw)
                        (try go_split_ands)
                        go_simp
                        with_reducible rfl
                      try simp only [Act.put, List.setIfInBounds_toArray, List.set_cons_zero, List.set_cons_succ]
                      refine wpAnyH_take (i := 16) (oi := ⟨some 64, _, _, _, _, _⟩) (v := ?_) rfl (by kernel_rfl) (by kernel_rfl) (by kernel_rfl) (fun _ _ _ h => h) (Or.inl ⟨by rfl, ?_⟩) (by assumption) ?_
                      rotate_left
                      · intro w hSw
                        (try dsimp only at hSw)
                        (try go_split_ands)
                        go_simp
                        with_reducible rfl
                      try simp only [Act.put, List.setIfInBounds_toArray, List.set_cons_zero, List.set_cons_succ]
                      refine wpAnyH_take (i := 17) (oi := ⟨some 65, _, _, _, _, _⟩) (v := ?_) rfl (by kernel_rfl) (by kernel_rfl) (by kernel_rfl) (fun _ _ _ h => h) (Or.inl ⟨by rfl, ?_⟩) (by assumption) ?_
                      rotate_left
                      · intro w hSw
                        (try dsimp only at hSw)
                        (try go_split_ands)
                        go_simp
                        with_reducible rfl
                      try simp only [Act.put, List.setIfInBounds_toArray, List.set_cons_zero, List.set_cons_succ]
                      refine wpAnyH_ready (rs := [18]) (by kernel_rfl) (by simp) ?_
                      refine AllReadyH.cons (o := ⟨some 66, _, _, _, _, _⟩) rfl (fun K hK => ?_) AllReadyH.nil
                      go_simp
                      go_at_call 64
                      refine (HSZ.out w5 hbe5).mono ?_
                      rintro e w6 ⟨rfl, rfl⟩
                      refine hK.out _ _ ?_ (fun hHeld => ?_)
                      · exact HK.out _ hbe5
                      clear hK K
                      try simp only [Act.put, List.setIfInBounds_toArray, List.set_cons_zero, List.set_cons_succ]
                      refine wpAnyH_take (i := 19) (oi := ⟨some 67, _, _, _, _, _⟩) (v := ?_) rfl (by kernel_rfl) (by kernel_rfl) (by kernel_rfl) (fun _ _ _ h => h) (Or.inl ⟨by rfl, ?_⟩) (by assumption) ?_
                      rotate_left
                      · intro w hSw
                        (try dsimp only at hSw)
                        (try go_split_ands)
                        go_simp
                        with_reducible rfl
                      try simp only [Act.put, List.setIfInBounds_toArray, List.set_cons_zero, List.set_cons_succ]
                      refine wpAnyH_take (i := 20) (oi := ⟨some 68, _, _, _, _, _⟩) (v := ?_) rfl (by kernel_rfl) (by kernel_rfl) (by kernel_rfl) (fun _ _ _ h => h) (Or.inl ⟨by rfl, ?_⟩) (by assumption) ?_
                      rotate_left
                      · intro w hSw
                        (try dsimp only at hSw)
                        (try go_split_ands)
                        go_simp
                        with_reducible rfl
                      try simp only [Act.put, List.setIfInBounds_toArray, List.set_cons_zero, List.set_cons_succ]
                      refine wpAnyH_take (i := 21) (oi := ⟨some 69, _, _, _, _, _⟩) (v := ?_) rfl (by kernel_rfl) (by kernel_rfl) (by kernel_rfl) (fun _ _ _ h => h) (Or.inl ⟨by rfl, ?_⟩) (by assumption) ?_
                      rotate_left
                      · intro w hSw
                        (try dsimp only at hSw)
                        (try go_split_ands)
                        go_simp
                        with_reducible rfl
                      try simp only [Act.put, List.setIfInBounds_toArray, List.set_cons_zero, List.set_cons_succ]
                      refine wpAnyH_take (i := 22) (oi := ⟨some 70, _, _, _, _, _⟩) (v := ?_) rfl (by kernel_rfl) (by kernel_rfl) (by kernel_rfl) (fun _ _ _ h => h) (Or.inl ⟨by rfl, ?_⟩) (by assumption) ?_
                      rotate_left
                      · intro w hSw
                        (try dsimp only at hSw)
                        (try go_split_ands)
                        go_simp
                        with_reducible rfl
                      try simp only [Act.put, List.setIfInBounds_toArray, List.set_cons_zero, List.set_cons_succ]
                      refine wpAnyH_take (i := 23) (oi := ⟨some 71, _, _, _, _, _⟩) (v := ?_) rfl (by kernel_rfl) (by kernel_rfl) (by kernel_rfl) (fun _ _ _ h => h) (Or.inl ⟨by rfl, ?_⟩) (by assumption) ?_
                      rotate_left
                      · intro w hSw
                        (try dsimp only at hSw)
                        (try go_split_ands)
                        go_simp
                        with_reducible rfl
                      try simp only [Act.put, List.setIfInBounds_toArray, List.set_cons_zero, List.set_cons_succ]
                      refine wpAnyH_take (i := 24) (oi := ⟨some 72, _, _, _, _, _⟩) (v := ?_) rfl (by kernel_rfl) (by kernel_rfl) (by kernel_rfl) (fun _ _ _ h => h) (Or.inl ⟨by rfl, ?_⟩) (by assumption) ?_
                      rotate_left
                      · intro w hSw
                        (try dsimp only at hSw)
                        (try go_split_ands)
                        go_simp
                        with_reducible rfl
                      try simp only [Act.put, List.setIfInBounds_toArray, List.set_cons_zero, List.set_cons_succ]
                      refine wpAnyH_take (i := 25) (oi := ⟨some 73, _, _, _, _, _⟩) (v := ?_) rfl (by kernel_rfl) (by kernel_rfl) (by kernel_rfl) (fun _ _ _ h => h) (Or.inl ⟨by rfl, ?_⟩) (by assumption) ?_
                      rotate_left
                      · intro w hSw
                        (try dsimp only at hSw)
                        (try go_split_ands)
                        go_simp
                        with_reducible rfl
                      try simp only [Act.put, List.setIfInBounds_toArray, List.set_cons_zero, List.set_cons_succ]
                      refine wpAnyH_take (i := 26) (oi := ⟨some 74, _, _, _, _, _⟩) (v := ?_) rfl (by kernel_rfl) (by kernel_rfl) (by kernel_rfl) (fun _ _ _ h => h) (Or.inl ⟨by rfl, ?_⟩) (by assumption) ?_
                      rotate_left
                      · intro w hSw
                        (try dsimp only at hSw)
                        (try go_split_ands)
                        go_simp
                        with_reducible rfl
                      try simp only [Act.put, List.setIfInBounds_toArray, List.set_cons_zero, List.set_cons_succ]
                      refine wpAnyH_take (i := 27) (oi := ⟨some 75, _, _, _, _, _⟩) (v := ?_) rfl (by kernel_rfl) (by kernel_rfl) (by kernel_rfl) (fun _ _ _ h => h) (Or.inl ⟨by rfl, ?_⟩) (by assumption) ?_
                      rotate_left
                      · intro w hSw
                        (try dsimp only at hSw)
                        (try go_split_ands)
                        go_simp
                        with_reducible rfl
                      try simp only [Act.put, List.setIfInBounds_toArray, List.set_cons_zero, List.set_cons_succ]
                      refine wpAnyH_take (i := 28) (oi := ⟨some 76, _, _, _, _, _⟩) (v := ?_) rfl (by kernel_rfl) (by kernel_rfl) (by kernel_rfl) (fun _ _ _ h => h) (Or.inl ⟨by rfl, ?_⟩) (by assumption) ?_
                      rotate_left
                      · intro w hSw
                        (try dsimp only at hSw)
                        (try go_split_ands)
                        go_simp
                        with_reducible rfl
                      try simp only [Act.put, List.setIfInBounds_toArray, List.set_cons_zero, List.set_cons_succ]
                      refine wpAnyH_done (by kernel_rfl) ?_ _
                      go_wp2_with fail
                      go_meet
                      exact ⟨by rw [HFIN.out], hbe5⟩
                    · have hqI : ¬ (gq : Int) ≤ (N : Int) / 16384 := by omega
                      have HFIN : Hid (decide (Wl.right y ∧ N / 16384 % 2 = i ∧ N % 8192 ≤ ab ∧ gq ≤ N / 16384) = false) := Lib.hid (decide_eq_false (fun h => hq h.2.2.2))
                      clear hr HIS hm hu hq
                      refine wp_region_held_drew (S := fun wx => (convert 36 9 (.slice (some ⟨q, o, none⟩) 8 c)).run Tryd.prog wx = .ok (.string (S y8)) wx ∧ wx.cell? ⟨g, 1, none⟩ = some (.int .i64 (gq : Int)) ∧ Below wr.heap.size wr wx) (by kernel_rfl) (HK.out _ hbd) (fun hHeld => ?_)
                      refine wpAnyH_take (i := 0) (oi := ⟨some 48, _, _, _, _, _⟩) (v := ?_) rfl (by kernel_rfl) (by kernel_rfl) (by kernel_rfl) (fun _ _ _ h => h) (Or.inl ⟨by rfl, ?_⟩) (by assumption) ?_
                      rotate_left
                      · intro w hSw
                        (try dsimp only at hSw)
                        (try go_split_ands)
                        go_simp
                        with_reducible rfl
                      try simp only [Act.put, List.setIfInBounds_toArray, List.set_cons_zero, List.set_cons_succ]
                      refine wpAnyH_take (i := 1) (oi := ⟨some 49, _, _, _, _, _⟩) (v := ?_) rfl (by kernel_rfl) (by kernel_rfl) (by kernel_rfl) (fun _ _ _ h => h) (Or.inl ⟨by rfl, ?_⟩) (by assumption) ?_
                      rotate_left
                      · intro w hSw
                        (try dsimp only at hSw)
                        (try go_split_ands)
                        go_simp
                        with_reducible rfl
                      try simp only [Act.put, List.setIfInBounds_toArray, List.set_cons_zero, List.set_cons_succ]
                      refine wpAnyH_take (i := 2) (oi := ⟨some 50, _, _, _, _, _⟩) (v := ?_) rfl (by kernel_rfl) (by kernel_rfl) (by kernel_rfl) (fun _ _ _ h => h) (Or.inl ⟨by rfl, ?_⟩) (by assumption) ?_
                      rotate_left
                      · intro w hSw
                        (try dsimp only at hSw)
                        (try go_split_ands)
                        go_simp
                        with_reducible rfl
                      try simp only [Act.put, List.setIfInBounds_toArray, List.set_cons_zero, List.set_cons_succ]
                      refine wpAnyH_take (i := 5) (oi := ⟨some 53, _, _, _, _, _⟩) (v := ?_) rfl (by kernel_rfl) (by kernel_rfl) (by kernel_rfl) (fun _ _ _ h => h) (Or.inl ⟨by rfl, ?_⟩) (by assumption) ?_
                      rotate_left
                      · intro w hSw
                        (try dsimp only at hSw)
                        (try go_split_ands)
                        go_simp
                        with_reducible rfl
                      try simp only [Act.put, List.setIfInBounds_toArray, List.set_cons_zero, List.set_cons_succ]
                      refine wpAnyH_take (i := 6) (oi := ⟨some 54, _, _, _, _, _⟩) (v := ?_) rfl (by kernel_rfl) (by kernel_rfl) (by kernel_rfl) (fun _ _ _ h => h) (Or.inl ⟨by rfl, ?_⟩) (by assumption) ?_
                      rotate_left
                      · intro w hSw
                        (try dsimp only at hSw)
                        (try go_split_ands)
                        go_simp
                        with_reducible rfl
                      try simp only [Act.put, List.setIfInBounds_toArray, List.set_cons_zero, List.set_cons_succ]
                      refine wpAnyH_take (i := 7) (oi := ⟨some 55, _, _, _, _, _⟩) (v := ?_) rfl (by kernel_rfl) (by kernel_rfl) (by kernel_rfl) (fun _ _ _ h => h) (Or.inl ⟨by rfl, ?_⟩) (by assumption) ?_
                      rotate_left
                      · intro w hSw
                        (try dsimp only at hSw)
                        (try go_split_ands)
                        go_simp
                        with_reducible rfl
                      try simp only [Act.put, List.setIfInBounds_toArray, List.set_cons_zero, List.set_cons_succ]
                      refine wpAnyH_ready (rs := [3]) (by kernel_rfl) (by simp) ?_
                      refine AllReadyH.cons (o := ⟨some 51, _, _, _, _, _⟩) rfl (fun K hK => ?_) AllReadyH.nil
                      go_simp
                      go_at_call 26
                      refine (HHD.out wr.drew).mono ?_
                      rintro e w5 ⟨A5, c5, rfl, hrow5, hb5⟩
                      have hbe5 := hbd.trans (hb5.mono hbd.size)
                      have ch5 := bin_string w5 A5 hd c5 (row_cells hrow5)
                      rw [HHL8.out] at ch5
                      clear hrow5 hb5
                      refine hK.out _ _ ?_ (fun hHeld => ?_)
                      · exact HK.out _ hbe5
                      clear hK K
                      try simp only [Act.put, List.setIfInBounds_toArray, List.set_cons_zero, List.set_cons_succ]
                      refine wpAnyH_ready (rs := [4]) (by kernel_rfl) (by simp) ?_
                      refine AllReadyH.cons (o := ⟨some 52, _, _, _, _, _⟩) rfl (fun K hK => ?_) AllReadyH.nil
                      go_simp
                      refine hK.out _ _ ?_ (fun hHeld => ?_)
                      · exact HK.out _ hbe5
                      clear hK K
                      try simp only [Act.put, List.setIfInBounds_toArray, List.set_cons_zero, List.set_cons_succ]
                      refine wpAnyH_take (i := 8) (oi := ⟨some 56, _, _, _, _, _⟩) (v := ?_) rfl (by kernel_rfl) (by kernel_rfl) (by kernel_rfl) (fun _ _ _ h => h) (Or.inl ⟨by rfl, ?_⟩) (by assumption) ?_
                      rotate_left
                      · intro w hSw
                        (try dsimp only at hSw)
                        (try go_split_ands)
                        go_simp
                        with_reducible rfl
                      try simp only [Act.put, List.setIfInBounds_toArray, List.set_cons_zero, List.set_cons_succ]
                      refine wpAnyH_take (i := 9) (oi := ⟨some 57, _, _, _, _, _⟩) (v := ?_) rfl (by kernel_rfl) (by kernel_rfl) (by kernel_rfl) (fun _ _ _ h => h) (Or.inl ⟨by rfl, ?_⟩) (by assumption) ?_
                      rotate_left
                      · intro w hSw
                        (try dsimp only at hSw)
                        (try go_split_ands)
                        go_simp
                        with_reducible rfl
                      try simp only [Act.put, List.setIfInBounds_toArray, List.set_cons_zero, List.set_cons_succ]
                      refine wpAnyH_take (i := 10) (oi := ⟨some 58, _, _, _, _, _⟩) (v := ?_) rfl (by kernel_rfl) (by kernel_rfl) (by kernel_rfl) (fun _ _ _ h => h) (Or.inl ⟨by rfl, ?_⟩) (by assumption) ?_
                      rotate_left
                      · intro w hSw
                        (try dsimp only at hSw)
                        (try go_split_ands)
                        go_simp
                        with_reducible rfl
                      try simp only [Act.put, List.setIfInBounds_toArray, List.set_cons_zero, List.set_cons_succ]
                      refine wpAnyH_take (i := 11) (oi := ⟨some 59, _, _, _, _, _⟩) (v := ?_) rfl (by kernel_rfl) (by kernel_rfl) (by kernel_rfl) (fun _ _ _ h => h) (Or.inl ⟨by rfl, ?_⟩) (by assumption) ?_
                      rotate_left
                      · intro w hSw
                        (try dsimp only at hSw)
                        (try go_split_ands)
                        go_simp
                        with_reducible rfl
                      try simp only [Act.put, List.setIfInBounds_toArray, List.set_cons_zero, List.set_cons_succ]
                      refine wpAnyH_take (i := 12) (oi := ⟨some 60, _, _, _, _, _⟩) (v := ?_) rfl (by kernel_rfl) (by kernel_rfl) (by kernel_rfl) (fun _ _ _ h => h) (Or.inl ⟨by rfl, ?_⟩) (by assumption) ?_
                      rotate_left
                      · intro w hSw
                        (try dsimp only at hSw)
                        (try go_split_ands)
                        go_simp
                        with_reducible rfl
                      try simp only [Act.put, List.setIfInBounds_toArray, List.set_cons_zero, List.set_cons_succ]
                      refine wpAnyH_take (i := 13) (oi := ⟨some 61, _, _, _, _, _⟩) (v := ?_) rfl (by kernel_rfl) (by kernel_rfl) (by kernel_rfl) (fun _ _ _ h => h) (Or.inl ⟨by rfl, ?_⟩) (by assumption) ?_
                      rotate_left
                      · intro w hSw
                        (try dsimp only at hSw)
                        (try go_split_ands)
                        go_simp
                        with_reducible rfl
                      try simp only [Act.put, List.setIfInBounds_toArray, List.set_cons_zero, List.set_cons_succ]
                      refine wpAnyH_take (i := 14) (oi := ⟨some 62, _, _, _, _, _⟩) (v := ?_) rfl (by kernel_rfl) (by kernel_rfl) (by kernel_rfl) (fun _ _ _ h => h) (Or.inl ⟨by rfl, ?_⟩) (by assumption) ?_
                      rotate_left
                      · intro w hSw
                        (try dsimp only at hSw)
                        (try go_split_ands)
                        go_simp
                        with_reducible rfl
                      try simp only [Act.put, List.setIfInBounds_toArray, List.set_cons_zero, List.set_cons_succ]
                      refine wpAnyH_take (i := 15) (oi := ⟨some 63, _, _, _, _, _⟩) (v := ?_) rfl (by kernel_rfl) (by kernel_rfl) (by kernel_rfl) (fun _ _ _ h => h) (Or.inl ⟨by rfl, ?_⟩) (by assumption) ?_
                      rotate_left
                      · intro w hSw
                        (try dsimp only at hSw)
                        (try go_split_ands)
                        go_simp
                        with_reducible rfl
                      try simp only [Act.put, List.setIfInBounds_toArray, List.set_cons_zero, List.set_cons_succ]
                      refine wpAnyH_take (i := 16) (oi := ⟨some 64, _, _, _, _, _⟩) (v := ?_) rfl (by kernel_rfl) (by kernel_rfl) (by kernel_rfl) (fun _ _ _ h => h) (Or.inl ⟨by rfl, ?_⟩) (by assumption) ?_
                      rotate_left
                      · intro w hSw
                        (try dsimp only at hSw)
                        (try go_split_ands)
                        go_simp
                        with_reducible rfl
                      try simp only [Act.put, List.setIfInBounds_toArray, List.set_cons_zero, List.set_cons_succ]
                      refine wpAnyH_take (i := 17) (oi := ⟨some 65, _, _, _, _, _⟩) (v := ?_) rfl (by kernel_rfl) (by kernel_rfl) (by kernel_rfl) (fun _ _ _ h => h) (Or.inl ⟨by rfl, ?_⟩) (by assumption) ?_
                      rotate_left
                      · intro w hSw
                        (try dsimp only at hSw)
                        (try go_split_ands)
                        go_simp
                        with_reducible rfl
                      try simp only [Act.put, List.setIfInBounds_toArray, List.set_cons_zero, List.set_cons_succ]
                      refine wpAnyH_ready (rs := [18]) (by kernel_rfl) (by simp) ?_
                      refine AllReadyH.cons (o := ⟨some 66, _, _, _, _, _⟩) rfl (fun K hK => ?_) AllReadyH.nil
                      go_simp
                      go_at_call 64
                      refine (HSZ.out w5 hbe5).mono ?_
                      rintro e w6 ⟨rfl, rfl⟩
                      refine hK.out _ _ ?_ (fun hHeld => ?_)
                      · exact HK.out _ hbe5
                      clear hK K
                      try simp only [Act.put, List.setIfInBounds_toArray, List.set_cons_zero, List.set_cons_succ]
                      refine wpAnyH_take (i := 19) (oi := ⟨some 67, _, _, _, _, _⟩) (v := ?_) rfl (by kernel_rfl) (by kernel_rfl) (by kernel_rfl) (fun _ _ _ h => h) (Or.inl ⟨by rfl, ?_⟩) (by assumption) ?_
                      rotate_left
                      · intro w hSw
                        (try dsimp only at hSw)
                        (try go_split_ands)
                        go_simp
                        with_reducible rfl
                      try simp only [Act.put, List.setIfInBounds_toArray, List.set_cons_zero, List.set_cons_succ]
                      refine wpAnyH_take (i := 20) (oi := ⟨some 68, _, _, _, _, _⟩) (v := ?_) rfl (by kernel_rfl) (by kernel_rfl) (by kernel_rfl) (fun _ _ _ h => h) (Or.inl ⟨by rfl, ?_⟩) (by assumption) ?_
                      rotate_left
                      · intro w hSw
                        (try dsimp only at hSw)
                        (try go_split_ands)
                        go_simp
                        with_reducible rfl
                      try simp only [Act.put, List.setIfInBounds_toArray, List.set_cons_zero, List.set_cons_succ]
                      refine wpAnyH_take (i := 21) (oi := ⟨some 69, _, _, _, _, _⟩) (v := ?_) rfl (by kernel_rfl) (by kernel_rfl) (by kernel_rfl) (fun _ _ _ h => h) (Or.inl ⟨by rfl, ?_⟩) (by assumption) ?_
                      rotate_left
                      · intro w hSw
                        (try dsimp only at hSw)
                        (try go_split_ands)
                        go_simp
                        with_reducible rfl
                      try simp only [Act.put, List.setIfInBounds_toArray, List.set_cons_zero, List.set_cons_succ]
                      refine wpAnyH_take (i := 22) (oi := ⟨some 70, _, _, _, _, _⟩) (v := ?_) rfl (by kernel_rfl) (by kernel_rfl) (by kernel_rfl) (fun _ _ _ h => h) (Or.inl ⟨by rfl, ?_⟩) (by assumption) ?_
                      rotate_left
                      · intro w hSw
                        (try dsimp only at hSw)
                        (try go_split_ands)
                        go_simp
                        with_reducible rfl
                      try simp only [Act.put, List.setIfInBounds_toArray, List.set_cons_zero, List.set_cons_succ]
                      refine wpAnyH_take (i := 23) (oi := ⟨some 71, _, _, _, _, _⟩) (v := ?_) rfl (by kernel_rfl) (by kernel_rfl) (by kernel_rfl) (fun _ _ _ h => h) (Or.inl ⟨by rfl, ?_⟩) (by assumption) ?_
                      rotate_left
                      · intro w hSw
                        (try dsimp only at hSw)
                        (try go_split_ands)
                        go_simp
                        with_reducible rfl
                      try simp only [Act.put, List.setIfInBounds_toArray, List.set_cons_zero, List.set_cons_succ]
                      refine wpAnyH_take (i := 24) (oi := ⟨some 72, _, _, _, _, _⟩) (v := ?_) rfl (by kernel_rfl) (by kernel_rfl) (by kernel_rfl) (fun _ _ _ h => h) (Or.inl ⟨by rfl, ?_⟩) (by assumption) ?_
                      rotate_left
                      · intro w hSw
                        (try dsimp only at hSw)
                        (try go_split_ands)
                        go_simp
                        with_reducible rfl
                      try simp only [Act.put, List.setIfInBounds_toArray, List.set_cons_zero, List.set_cons_succ]
                      refine wpAnyH_take (i := 25) (oi := ⟨some 73, _, _, _, _, _⟩) (v := ?_) rfl (by kernel_rfl) (by kernel_rfl) (by kernel_rfl) (fun _ _ _ h => h) (Or.inl ⟨by rfl, ?_⟩) (by assumption) ?_
                      rotate_left
                      · intro w hSw
                        (try dsimp only at hSw)
                        (try go_split_ands)
                        go_simp
                        with_reducible rfl
                      try simp only [Act.put, List.setIfInBounds_toArray, List.set_cons_zero, List.set_cons_succ]
                      refine wpAnyH_take (i := 26) (oi := ⟨some 74, _, _, _, _, _⟩) (v := ?_) rfl (by kernel_rfl) (by kernel_rfl) (by kernel_rfl) (fun _ _ _ h => h) (Or.inl ⟨by rfl, ?_⟩) (by assumption) ?_
                      rotate_left
                      · intro w hSw
                        (try dsimp only at hSw)
                        (try go_split_ands)
                        go_simp
                        with_reducible rfl
                      try simp only [Act.put, List.setIfInBounds_toArray, List.set_cons_zero, List.set_cons_succ]
                      refine wpAnyH_take (i := 27) (oi := ⟨some 75, _, _, _, _, _⟩) (v := ?_) rfl (by kernel_rfl) (by kernel_rfl) (by kernel_rfl) (fun _ _ _ h => h) (Or.inl ⟨by rfl, ?_⟩) (by assumption) ?_
                      rotate_left
                      · intro w hSw
                        (try dsimp only at hSw)
                        (try go_split_ands)
                        go_simp
                        with_reducible rfl
                      try simp only [Act.put, List.setIfInBounds_toArray, List.set_cons_zero, List.set_cons_succ]
                      refine wpAnyH_take (i := 28) (oi := ⟨some 76, _, _, _, _, _⟩) (v := ?_) rfl (by kernel_rfl) (by kernel_rfl) (by kernel_rfl) (fun _ _ _ h => h) (Or.inl ⟨by rfl, ?_⟩) (by assumption) ?_
                      rotate_left
                      · intro w hSw
                        (try dsimp only at hSw)
                        (try go_split_ands)
                        go_simp
                        with_reducible rfl
                      try simp only [Act.put, List.setIfInBounds_toArray, List.set_cons_zero, List.set_cons_succ]
                      refine wpAnyH_done (by kernel_rfl) ?_ _
                      go_wp2_with fail
                      go_meet
                      exact ⟨by rw [HFIN.out], hbe5⟩
                  · have huI : ¬ (N : Int) % 8192 ≤ (ab : Int) := by omega
                    have HFIN : Hid (decide (Wl.right y ∧ N / 16384 % 2 = i ∧ N % 8192 ≤ ab ∧ gq ≤ N / 16384) = false) := Lib.hid (decide_eq_false (fun h => hu h.2.2.1))
                    clear hr HIS hm hu
                    refine wp_region_held_drew (S := fun wx => (convert 36 9 (.slice (some ⟨q, o, none⟩) 8 c)).run Tryd.prog wx = .ok (.string (S y8)) wx ∧ wx.cell? ⟨g, 1, none⟩ = some (.int .i64 (gq : Int)) ∧ Below wr.heap.size wr wx) (by kernel_rfl) (HK.out _ hbd) (fun hHeld => ?_)
                    refine wpAnyH_take (i := 0) (oi := ⟨some 48, _, _, _, _, _⟩) (v := ?_) rfl (by kernel_rfl) (by kernel_rfl) (by kernel_rfl) (fun _ _ _ h => h) (Or.inl ⟨by rfl, ?_⟩) (by assumption) ?_
                    rotate_left
                    · intro w hSw
                      (try dsimp only at hSw)
                      (try go_split_ands)
                      go_simp
                      with_reducible rfl
                    try simp only [Act.put, List.setIfInBounds_toArray, List.set_cons_zero, List.set_cons_succ]
                    refine wpAnyH_take (i := 1) (oi := ⟨some 49, _, _, _, _, _⟩) (v := ?_) rfl (by kernel_rfl) (by kernel_rfl) (by kernel_rfl) (fun _ _ _ h => h) (Or.inl ⟨by rfl, ?_⟩) (by assumption) ?_
                    rotate_left
                    · intro w hSw
                      (try dsimp only at hSw)
                      (try go_split_ands)
                      go_simp
                      with_reducible rfl
                    try simp only [Act.put, List.setIfInBounds_toArray, List.set_cons_zero, List.set_cons_succ]
                    refine wpAnyH_take (i := 2) (oi := ⟨some 50, _, _, _, _, _⟩) (v := ?_) rfl (by kernel_rfl) (by kernel_rfl) (by kernel_rfl) (fun _ _ _ h => h) (Or.inl ⟨by rfl, ?_⟩) (by assumption) ?_
                    rotate_left
                    · intro w hSw
                      (try dsimp only at hSw)
                      (try go_split_ands)
                      go_simp
                      with_reducible rfl
                    try simp only [Act.put, List.setIfInBounds_toArray, List.set_cons_zero, List.set_cons_succ]
                    refine wpAnyH_take (i := 5) (oi := ⟨some 53, _, _, _, _, _⟩) (v := ?_) rfl (by kernel_rfl) (by kernel_rfl) (by kernel_rfl) (fun _ _ _ h => h) (Or.inl ⟨by rfl, ?_⟩) (by assumption) ?_
                    rotate_left
                    · intro w hSw
                      (try dsimp only at hSw)
                      (try go_split_ands)
                      go_simp
                      with_reducible rfl
                    try simp only [Act.put, List.setIfInBounds_toArray, List.set_cons_zero, List.set_cons_succ]
                    refine wpAnyH_take (i := 6) (oi := ⟨some 54, _, _, _, _, _⟩) (v := ?_) rfl (by kernel_rfl) (by kernel_rfl) (by kernel_rfl) (fun _ _ _ h => h) (Or.inl ⟨by rfl, ?_⟩) (by assumption) ?_
                    rotate_left
                    · intro w hSw
                      (try dsimp only at hSw)
                      (try go_split_ands)
                      go_simp
                      with_reducible rfl
                    try simp only [Act.put, List.setIfInBounds_toArray, List.set_cons_zero, List.set_cons_succ]
                    refine wpAnyH_take (i := 7) (oi := ⟨some 55, _, _, _, _, _⟩) (v := ?_) rfl (by kernel_rfl) (by kernel_rfl) (by kernel_rfl) (fun _ _ _ h => h) (Or.inl ⟨by rfl, ?_⟩) (by assumption) ?_
                    rotate_left
                    · intro w hSw
                      (try dsimp only at hSw)
                      (try go_split_ands)
                      go_simp
                      with_reducible rfl
                    try simp only [Act.put, List.setIfInBounds_toArray, List.set_cons_zero, List.set_cons_succ]
                    refine wpAnyH_ready (rs := [3]) (by kernel_rfl) (by simp) ?_
                    refine AllReadyH.cons (o := ⟨some 51, _, _, _, _, _⟩) rfl (fun K hK => ?_) AllReadyH.nil
                    go_simp
                    go_at_call 26
                    refine (HHD.out wr.drew).mono ?_
                    rintro e w5 ⟨A5, c5, rfl, hrow5, hb5⟩
                    have hbe5 := hbd.trans (hb5.mono hbd.size)
                    have ch5 := bin_string w5 A5 hd c5 (row_cells hrow5)
                    rw [HHL8.out] at ch5
                    clear hrow5 hb5
                    refine hK.out _ _ ?_ (fun hHeld => ?_)
                    · exact HK.out _ hbe5
                    clear hK K
                    try simp only [Act.put, List.setIfInBounds_toArray, List.set_cons_zero, List.set_cons_succ]
                    refine wpAnyH_ready (rs := [4]) (by kernel_rfl) (by simp) ?_
                    refine AllReadyH.cons (o := ⟨some 52, _, _, _, _, _⟩) rfl (fun K hK => ?_) AllReadyH.nil
                    go_simp
                    refine hK.out _ _ ?_ (fun hHeld => ?_)
                    · exact HK.out _ hbe5
                    clear hK K
                    try simp only [Act.put, List.setIfInBounds_toArray, List.set_cons_zero, List.set_cons_succ]
                    refine wpAnyH_take (i := 8) (oi := ⟨some 56, _, _, _, _, _⟩) (v := ?_) rfl (by kernel_rfl) (by kernel_rfl) (by kernel_rfl) (fun _ _ _ h => h) (Or.inl ⟨by rfl, ?_⟩) (by assumption) ?_
                    rotate_left
                    · intro w hSw
                      (try dsimp only at hSw)
                      (try go_split_ands)
                      go_simp
                      with_reducible rfl
                    try simp only [Act.put, List.setIfInBounds_toArray, List.set_cons_zero, List.set_cons_succ]
                    refine wpAnyH_take (i := 9) (oi := ⟨some 57, _, _, _, _, _⟩) (v := ?_) rfl (by kernel_rfl) (by kernel_rfl) (by kernel_rfl) (fun _ _ _ h => h) (Or.inl ⟨by rfl, ?_⟩) (by assumption) ?_
                    rotate_left
                    · intro w hSw
                      (try dsimp only at hSw)
                      (try go_split_ands)
                      go_simp
                      with_reducible rfl
                    try simp only [Act.put, List.setIfInBounds_toArray, List.set_cons_zero, List.set_cons_succ]
                    refine wpAnyH_take (i := 10) (oi := ⟨some 58, _, _, _, _, _⟩) (v := ?_) rfl (by kernel_rfl) (by kernel_rfl) (by kernel_rfl) (fun _ _ _ h => h) (Or.inl ⟨by rfl, ?_⟩) (by assumption) ?_
                    rotate_left
                    · intro w hSw
                      (try dsimp only at hSw)
                      (try go_split_ands)
                      go_simp
                      with_reducible rfl
                    try simp only [Act.put, List.setIfInBounds_toArray, List.set_cons_zero, List.set_cons_succ]
                    refine wpAnyH_take (i := 11) (oi := ⟨some 59, _, _, _, _, _⟩) (v := ?_) rfl (by kernel_rfl) (by kernel_rfl) (by kernel_rfl) (fun _ _ _ h => h) (Or.inl ⟨by rfl, ?_⟩) (by assumption) ?_
                    rotate_left
                    · intro w hSw
                      (try dsimp only at hSw)
                      (try go_split_ands)
                      go_simp
                      with_reducible rfl
                    try simp only [Act.put, List.setIfInBounds_toArray, List.set_cons_zero, List.set_cons_succ]
                    refine wpAnyH_take (i := 12) (oi := ⟨some 60, _, _, _, _, _⟩) (v := ?_) rfl (by kernel_rfl) (by kernel_rfl) (by kernel_rfl) (fun _ _ _ h => h) (Or.inl ⟨by rfl, ?_⟩) (by assumption) ?_
                    rotate_left
                    · intro w hSw
                      (try dsimp only at hSw)
                      (try go_split_ands)
                      go_simp
                      with_reducible rfl
                    try simp only [Act.put, List.setIfInBounds_toArray, List.set_cons_zero, List.set_cons_succ]
                    refine wpAnyH_take (i := 13) (oi := ⟨some 61, _, _, _, _, _⟩) (v := ?_) rfl (by kernel_rfl) (by kernel_rfl) (by kernel_rfl) (fun _ _ _ h => h) (Or.inl ⟨by rfl, ?_⟩) (by assumption) ?_
                    rotate_left
                    · intro w hSw
                      (try dsimp only at hSw)
                      (try go_split_ands)
                      go_simp
                      with_reducible rfl
                    try simp only [Act.put, List.setIfInBounds_toArray, List.set_cons_zero, List.set_cons_succ]
                    refine wpAnyH_take (i := 14) (oi := ⟨some 62, _, _, _, _, _⟩) (v := ?_) rfl (by kernel_rfl) (by kernel_rfl) (by kernel_rfl) (fun _ _ _ h => h) (Or.inl ⟨by rfl, ?_⟩) (by assumption) ?_
                    rotate_left
                    · intro w hSw
                      (try dsimp only at hSw)
                      (try go_split_ands)
                      go_simp
                      with_reducible rfl
                    try simp only [Act.put, List.setIfInBounds_toArray, List.set_cons_zero, List.set_cons_succ]
                    refine wpAnyH_take (i := 15) (oi := ⟨some 63, _, _, _, _, _⟩) (v := ?_) rfl (by kernel_rfl) (by kernel_rfl) (by kernel_rfl) (fun _ _ _ h => h) (Or.inl ⟨by rfl, ?_⟩) (by assumption) ?_
                    rotate_left
                    · intro w hSw
                      (try dsimp only at hSw)
                      (try go_split_ands)
                      go_simp
                      with_reducible rfl
                    try simp only [Act.put, List.setIfInBounds_toArray, List.set_cons_zero, List.set_cons_succ]
                    refine wpAnyH_take (i := 16) (oi := ⟨some 64, _, _, _, _, _⟩) (v := ?_) rfl (by kernel_rfl) (by kernel_rfl) (by kernel_rfl) (fun _ _ _ h => h) (Or.inl ⟨by rfl, ?_⟩) (by assumption) ?_
                    rotate_left
                    · intro w hSw
                      (try dsimp only at hSw)
                      (try go_split_ands)
                      go_simp
                      with_reducible rfl
                    try simp only [Act.put, List.setIfInBounds_toArray, List.set_cons_zero, List.set_cons_succ]
                    refine wpAnyH_take (i := 17) (oi := ⟨some 65, _, _, _, _, _⟩) (v := ?_) rfl (by kernel_rfl) (by kernel_rfl) (by kernel_rfl) (fun _ _ _ h => h) (Or.inl ⟨by rfl, ?_⟩) (by assumption) ?_
                    rotate_left
                    · intro w hSw
                      (try dsimp only at hSw)
                      (try go_split_ands)
                      go_simp
                      with_reducible rfl
                    try simp only [Act.put, List.setIfInBounds_toArray, List.set_cons_zero, List.set_cons_succ]
                    refine wpAnyH_ready (rs := [18]) (by kernel_rfl) (by simp) ?_
                    refine AllReadyH.cons (o := ⟨some 66, _, _, _, _, _⟩) rfl (fun K hK => ?_) AllReadyH.nil
                    go_simp
                    go_at_call 64
                    refine (HSZ.out w5 hbe5).mono ?_
                    rintro e w6 ⟨rfl, rfl⟩
                    refine hK.out _ _ ?_ (fun hHeld => ?_)
                    · exact HK.out _ hbe5
                    clear hK K
                    try simp only [Act.put, List.setIfInBounds_toArray, List.set_cons_zero, List.set_cons_succ]
                    refine wpAnyH_take (i := 19) (oi := ⟨some 67, _, _, _, _, _⟩) (v := ?_) rfl (by kernel_rfl) (by kernel_rfl) (by kernel_rfl) (fun _ _ _ h => h) (Or.inl ⟨by rfl, ?_⟩) (by assumption) ?_
                    rotate_left
                    · intro w hSw
                      (try dsimp only at hSw)
                      (try go_split_ands)
                      go_simp
                      with_reducible rfl
                    try simp only [Act.put, List.setIfInBounds_toArray, List.set_cons_zero, List.set_cons_succ]
                    refine wpAnyH_take (i := 20) (oi := ⟨some 68, _, _, _, _, _⟩) (v := ?_) rfl (by kernel_rfl) (by kernel_rfl) (by kernel_rfl) (fun _ _ _ h => h) (Or.inl ⟨by rfl, ?_⟩) (by assumption) ?_
                    rotate_left
                    · intro w hSw
                      (try dsimp only at hSw)
                      (try go_split_ands)
                      go_simp
                      with_reducible rfl
                    try simp only [Act.put, List.setIfInBounds_toArray, List.set_cons_zero, List.set_cons_succ]
                    refine wpAnyH_take (i := 21) (oi := ⟨some 69, _, _, _, _, _⟩) (v := ?_) rfl (by kernel_rfl) (by kernel_rfl) (by kernel_rfl) (fun _ _ _ h => h) (Or.inl ⟨by rfl, ?_⟩) (by assumption) ?_
                    rotate_left
                    · intro w hSw
                      (try dsimp only at hSw)
                      (try go_split_ands)
                      go_simp
                      with_reducible rfl
                    try simp only [Act.put, List.setIfInBounds_toArray, List.set_cons_zero, List.set_cons_succ]
                    refine wpAnyH_take (i := 22) (oi := ⟨some 70, _, _, _, _, _⟩) (v := undef) rfl (by kernel_rfl) (by kernel_rfl) (by kernel_rfl) (fun _ _ _ h => h) (Or.inr ⟨by rfl, rfl⟩) (by assumption) ?_
                    try simp only [Act.put, List.setIfInBounds_toArray, List.set_cons_zero, List.set_cons_succ]
                    refine wpAnyH_take (i := 23) (oi := ⟨some 71, _, _, _, _, _⟩) (v := undef) rfl (by kernel_rfl) (by kernel_rfl) (by kernel_rfl) (fun _ _ _ h => h) (Or.inr ⟨by rfl, rfl⟩) (by assumption) ?_
                    try simp only [Act.put, List.setIfInBounds_toArray, List.set_cons_zero, List.set_cons_succ]
                    refine wpAnyH_take (i := 24) (oi := ⟨some 72, _, _, _, _, _⟩) (v := undef) rfl (by kernel_rfl) (by kernel_rfl) (by kernel_rfl) (fun _ _ _ h => h) (Or.inr ⟨by rfl, rfl⟩) (by assumption) ?_
                    try simp only [Act.put, List.setIfInBounds_toArray, List.set_cons_zero, List.set_cons_succ]
                    refine wpAnyH_take (i := 25) (oi := ⟨some 73, _, _, _, _, _⟩) (v := undef) rfl (by kernel_rfl) (by kernel_rfl) (by kernel_rfl) (fun _ _ _ h => h) (Or.inr ⟨by rfl, rfl⟩) (by assumption) ?_
                    try simp only [Act.put, List.setIfInBounds_toArray, List.set_cons_zero, List.set_cons_succ]
                    refine wpAnyH_take (i := 26) (oi := ⟨some 74, _, _, _, _, _⟩) (v := undef) rfl (by kernel_rfl) (by kernel_rfl) (by kernel_rfl) (fun _ _ _ h => h) (Or.inr ⟨by rfl, rfl⟩) (by assumption) ?_
                    try simp only [Act.put, List.setIfInBounds_toArray, List.set_cons_zero, List.set_cons_succ]
                    refine wpAnyH_take (i := 27) (oi := ⟨some 75, _, _, _, _, _⟩) (v := undef) rfl (by kernel_rfl) (by kernel_rfl) (by kernel_rfl) (fun _ _ _ h => h) (Or.inr ⟨by rfl, rfl⟩) (by assumption) ?_
                    try simp only [Act.put, List.setIfInBounds_toArray, List.set_cons_zero, List.set_cons_succ]
                    refine wpAnyH_take (i := 28) (oi := ⟨some 76, _, _, _, _, _⟩) (v := ?_) rfl (by kernel_rfl) (by kernel_rfl) (by kernel_rfl) (fun _ _ _ h => h) (Or.inl ⟨by rfl, ?_⟩) (by assumption) ?_
                    rotate_left
                    · intro w hSw
                      (try dsimp only at hSw)
                      (try go_split_ands)
                      go_simp
                      with_reducible rfl
                    try simp only [Act.put, List.setIfInBounds_toArray, List.set_cons_zero, List.set_cons_succ]
                    refine wpAnyH_done (by kernel_rfl) ?_ _
                    go_wp2_with fail
                    go_meet
                    exact ⟨by rw [HFIN.out], hbe5⟩
                · have hmI : (((N : Int) / 16384).tmod 2 == (i : Int)) = false := by
                    rw [beq_eq_false_iff_ne, Int.tmod_eq_emod_of_nonneg (by omega)]
                    omega
                  have HFIN : Hid (decide (Wl.right y ∧ N / 16384 % 2 = i ∧ N % 8192 ≤ ab ∧ gq ≤ N / 16384) = false) := Lib.hid (decide_eq_false (fun h => hm h.2.1))
                  clear hr HIS hm
                  refine wp_region_held_drew (S := fun wx => (convert 36 9 (.slice (some ⟨q, o, none⟩) 8 c)).run Tryd.prog wx = .ok (.string (S y8)) wx ∧ wx.cell? ⟨g, 1, none⟩ = some (.int .i64 (gq : Int)) ∧ Below wr.heap.size wr wx) (by kernel_rfl) (HK.out _ hbd) (fun hHeld => ?_)
                  refine wpAnyH_take (i := 0) (oi := ⟨some 48, _, _, _, _, _⟩) (v := ?_) rfl (by kernel_rfl) (by kernel_rfl) (by kernel_rfl) (fun _ _ _ h => h) (Or.inl ⟨by rfl, ?_⟩) (by assumption) ?_
                  rotate_left
                  · intro w hSw
                    (try dsimp only at hSw)
                    (try go_split_ands)
                    go_simp
                    with_reducible rfl
                  try simp only [Act.put, List.setIfInBounds_toArray, List.set_cons_zero, List.set_cons_succ]
                  refine wpAnyH_take (i := 1) (oi := ⟨some 49, _, _, _, _, _⟩) (v := ?_) rfl (by kernel_rfl) (by kernel_rfl) (by kernel_rfl) (fun _ _ _ h => h) (Or.inl ⟨by rfl, ?_⟩) (by assumption) ?_
                  rotate_left
                  · intro w hSw
                    (try dsimp only at hSw)
                    (try go_split_ands)
                    go_simp
                    with_reducible rfl
                  try simp only [Act.put, List.setIfInBounds_toArray, List.set_cons_zero, List.set_cons_succ]
                  refine wpAnyH_take (i := 2) (oi := ⟨some 50, _, _, _, _, _⟩) (v := ?_) rfl (by kernel_rfl) (by kernel_rfl) (by kernel_rfl) (fun _ _ _ h => h) (Or.inl ⟨by rfl, ?_⟩) (by assumption) ?_
                  rotate_left
                  · intro w hSw
                    (try dsimp only at hSw)
                    (try go_split_ands)
                    go_simp
                    with_reducible rfl
                  try simp only [Act.put, List.setIfInBounds_toArray, List.set_cons_zero, List.set_cons_succ]
                  refine wpAnyH_take (i := 5) (oi := ⟨some 53, _, _, _, _, _⟩) (v := ?_) rfl (by kernel_rfl) (by kernel_rfl) (by kernel_rfl) (fun _ _ _ h => h) (Or.inl ⟨by rfl, ?_⟩) (by assumption) ?_
                  rotate_left
                  · intro w hSw
                    (try dsimp only at hSw)
                    (try go_split_ands)
                    go_simp
                    with_reducible rfl
                  try simp only [Act.put, List.setIfInBounds_toArray, List.set_cons_zero, List.set_cons_succ]
                  refine wpAnyH_take (i := 6) (oi := ⟨some 54, _, _, _, _, _⟩) (v := ?_) rfl (by kernel_rfl) (by kernel_rfl) (by kernel_rfl) (fun _ _ _ h => h) (Or.inl ⟨by rfl, ?_⟩) (by assumption) ?_
                  rotate_left
                  · intro w hSw
                    (try dsimp only at hSw)
                    (try go_split_ands)
                    go_simp
                    with_reducible rfl
                  try simp only [Act.put, List.setIfInBounds_toArray, List.set_cons_zero, List.set_cons_succ]
                  refine wpAnyH_take (i := 7) (oi := ⟨some 55, _, _, _, _, _⟩) (v := ?_) rfl (by kernel_rfl) (by kernel_rfl) (by kernel_rfl) (fun _ _ _ h => h) (Or.inl ⟨by rfl, ?_⟩) (by assumption) ?_
                  rotate_left
                  · intro w hSw
                    (try dsimp only at hSw)
                    (try go_split_ands)
                    go_simp
                    with_reducible rfl
                  try simp only [Act.put, List.setIfInBounds_toArray, List.set_cons_zero, List.set_cons_succ]
                  refine wpAnyH_ready (rs := [3]) (by kernel_rfl) (by simp) ?_
                  refine AllReadyH.cons (o := ⟨some 51, _, _, _, _, _⟩) rfl (fun K hK => ?_) AllReadyH.nil
                  go_simp
                  go_at_call 26
                  refine (HHD.out wr.drew).mono ?_
                  rintro e w5 ⟨A5, c5, rfl, hrow5, hb5⟩
                  have hbe5 := hbd.trans (hb5.mono hbd.size)
                  have ch5 := bin_string w5 A5 hd c5 (row_cells hrow5)
                  rw [HHL8.out] at ch5
                  clear hrow5 hb5
                  refine hK.out _ _ ?_ (fun hHeld => ?_)
                  · exact HK.out _ hbe5
                  clear hK K
                  try simp only [Act.put, List.setIfInBounds_toArray, List.set_cons_zero, List.set_cons_succ]
                  refine wpAnyH_ready (rs := [4]) (by kernel_rfl) (by simp) ?_
                  refine AllReadyH.cons (o := ⟨some 52, _, _, _, _, _⟩) rfl (fun K hK => ?_) AllReadyH.nil
                  go_simp
                  refine hK.out _ _ ?_ (fun hHeld => ?_)
                  · exact HK.out _ hbe5
                  clear hK K
                  try simp only [Act.put, List.setIfInBounds_toArray, List.set_cons_zero, List.set_cons_succ]
                  refine wpAnyH_take (i := 8) (oi := ⟨some 56, _, _, _, _, _⟩) (v := ?_) rfl (by kernel_rfl) (by kernel_rfl) (by kernel_rfl) (fun _ _ _ h => h) (Or.inl ⟨by rfl, ?_⟩) (by assumption) ?_
                  rotate_left
                  · intro w hSw
                    (try dsimp only at hSw)
                    (try go_split_ands)
                    go_simp
                    with_reducible rfl
                  try simp only [Act.put, List.setIfInBounds_toArray, List.set_cons_zero, List.set_cons_succ]
                  refine wpAnyH_take (i := 9) (oi := ⟨some 57, _, _, _, _, _⟩) (v := ?_) rfl (by kernel_rfl) (by kernel_rfl) (by kernel_rfl) (fun _ _ _ h => h) (Or.inl ⟨by rfl, ?_⟩) (by assumption) ?_
                  rotate_left
                  · intro w hSw
                    (try dsimp only at hSw)
                    (try go_split_ands)
                    go_simp
                    with_reducible rfl
                  try simp only [Act.put, List.setIfInBounds_toArray, List.set_cons_zero, List.set_cons_succ]
                  refine wpAnyH_take (i := 10) (oi := ⟨some 58, _, _, _, _, _⟩) (v := ?_) rfl (by kernel_rfl) (by kernel_rfl) (by kernel_rfl) (fun _ _ _ h => h) (Or.inl ⟨by rfl, ?_⟩) (by assumption) ?_
                  rotate_left
                  · intro w hSw
                    (try dsimp only at hSw)
                    (try go_split_ands)
                    go_simp
                    with_reducible rfl
                  try simp only [Act.put, List.setIfInBounds_toArray, List.set_cons_zero, List.set_cons_succ]
                  refine wpAnyH_take (i := 11) (oi := ⟨some 59, _, _, _, _, _⟩) (v := ?_) rfl (by kernel_rfl) (by kernel_rfl) (by kernel_rfl) (fun _ _ _ h => h) (Or.inl ⟨by rfl, ?_⟩) (by assumption) ?_
                  rotate_left
                  · intro w hSw
                    (try dsimp only at hSw)
                    (try go_split_ands)
                    go_simp
                    with_reducible rfl
                  try simp only [Act.put, List.setIfInBounds_toArray, List.set_cons_zero, List.set_cons_succ]
                  refine wpAnyH_take (i := 12) (oi := ⟨some 60, _, _, _, _, _⟩) (v := ?_) rfl (by kernel_rfl) (by kernel_rfl) (by kernel_rfl) (fun _ _ _ h => h) (Or.inl ⟨by rfl, ?_⟩) (by assumption) ?_
                  rotate_left
                  · intro w hSw
                    (try dsimp only at hSw)
                    (try go_split_ands)
                    go_simp
                    with_reducible rfl
                  try simp only [Act.put, List.setIfInBounds_toArray, List.set_cons_zero, List.set_cons_succ]
                  refine wpAnyH_take (i := 13) (oi := ⟨some 61, _, _, _, _, _⟩) (v := ?_) rfl (by kernel_rfl) (by kernel_rfl) (by kernel_rfl) (fun _ _ _ h => h) (Or.inl ⟨by rfl, ?_⟩) (by assumption) ?_
                  rotate_left
                  · intro w hSw
                    (try dsimp only at hSw)
                    (try go_split_ands)
                    go_simp
                    with_reducible rfl
                  try simp only [Act.put, List.setIfInBounds_toArray, List.set_cons_zero, List.set_cons_succ]
                  refine wpAnyH_take (i := 14) (oi := ⟨some 62, _, _, _, _, _⟩) (v := ?_) rfl (by kernel_rfl) (by kernel_rfl) (by kernel_rfl) (fun _ _ _ h => h) (Or.inl ⟨by rfl, ?_⟩) (by assumption) ?_
                  rotate_left
                  · intro w hSw
                    (try dsimp only at hSw)
                    (try go_split_ands)
                    go_simp
                    with_reducible rfl
                  try simp only [Act.put, List.setIfInBounds_toArray, List.set_cons_zero, List.set_cons_succ]
                  refine wpAnyH_take (i := 15) (oi := ⟨some 63, _, _, _, _, _⟩) (v := ?_) rfl (by kernel_rfl) (by kernel_rfl) (by kernel_rfl) (fun _ _ _ h => h) (Or.inl ⟨by rfl, ?_⟩) (by assumption) ?_
                  rotate_left
                  · intro w hSw
                    (try dsimp only at hSw)
                    (try go_split_ands)
                    go_simp
                    with_reducible rfl
                  try simp only [Act.put, List.setIfInBounds_toArray, List.set_cons_zero, List.set_cons_succ]
                  refine wpAnyH_take (i := 16) (oi := ⟨some 64, _, _, _, _, _⟩) (v := undef) rfl (by kernel_rfl) (by kernel_rfl) (by kernel_rfl) (fun _ _ _ h => h) (Or.inr ⟨by rfl, rfl⟩) (by assumption) ?_
                  try simp only [Act.put, List.setIfInBounds_toArray, List.set_cons_zero, List.set_cons_succ]
                  refine wpAnyH_take (i := 17) (oi := ⟨some 65, _, _, _, _, _⟩) (v := undef) rfl (by kernel_rfl) (by kernel_rfl) (by kernel_rfl) (fun _ _ _ h => h) (Or.inr ⟨by rfl, rfl⟩) (by assumption) ?_
                  try simp only [Act.put, List.setIfInBounds_toArray, List.set_cons_zero, List.set_cons_succ]
                  refine wpAnyH_ready (rs := [18]) (by kernel_rfl) (by simp) ?_
                  refine AllReadyH.cons (o := ⟨some 66, _, _, _, _, _⟩) rfl (fun K hK => ?_) AllReadyH.nil
                  rw [if_neg (by simp [Region.wanted, yielded])]
                  refine hK.out _ _ ?_ (fun hHeld => ?_)
                  · exact HK.out _ hbe5
                  clear hK K
                  try simp only [Act.put, List.setIfInBounds_toArray, List.set_cons_zero, List.set_cons_succ]
                  refine wpAnyH_take (i := 19) (oi := ⟨some 67, _, _, _, _, _⟩) (v := undef) rfl (by kernel_rfl) (by kernel_rfl) (by kernel_rfl) (fun _ _ _ h => h) (Or.inr ⟨by rfl, rfl⟩) (by assumption) ?_
                  try simp only [Act.put, List.setIfInBounds_toArray, List.set_cons_zero, List.set_cons_succ]
                  refine wpAnyH_take (i := 20) (oi := ⟨some 68, _, _, _, _, _⟩) (v := ?_) rfl (by kernel_rfl) (by kernel_rfl) (by kernel_rfl) (fun _ _ _ h => h) (Or.inl ⟨by rfl, ?_⟩) (by assumption) ?_
                  rotate_left
                  · intro w hSw
                    (try dsimp only at hSw)
                    (try go_split_ands)
                    go_simp
                    with_reducible rfl
                  try simp only [Act.put, List.setIfInBounds_toArray, List.set_cons_zero, List.set_cons_succ]
                  refine wpAnyH_take (i := 21) (oi := ⟨some 69, _, _, _, _, _⟩) (v := ?_) rfl (by kernel_rfl) (by kernel_rfl) (by kernel_rfl) (fun _ _ _ h => h) (Or.inl ⟨by rfl, ?_⟩) (by assumption) ?_
                  rotate_left
                  · intro w hSw
                    (try dsimp only at hSw)
                    (try go_split_ands)
                    go_simp
                    with_reducible rfl
                  try simp only [Act.put, List.setIfInBounds_toArray, List.set_cons_zero, List.set_cons_succ]
                  refine wpAnyH_take (i := 22) (oi := ⟨some 70, _, _, _, _, _⟩) (v := undef) rfl (by kernel_rfl) (by kernel_rfl) (by kernel_rfl) (fun _ _ _ h => h) (Or.inr ⟨by rfl, rfl⟩) (by assumption) ?_
                  try simp only [Act.put, List.setIfInBounds_toArray, List.set_cons_zero, List.set_cons_succ]
                  refine wpAnyH_take (i := 23) (oi := ⟨some 71, _, _, _, _, _⟩) (v := undef) rfl (by kernel_rfl) (by kernel_rfl) (by kernel_rfl) (fun _ _ _ h => h) (Or.inr ⟨by rfl, rfl⟩) (by assumption) ?_
                  try simp only [Act.put, List.setIfInBounds_toArray, List.set_cons_zero, List.set_cons_succ]
                  refine wpAnyH_take (i := 24) (oi := ⟨some 72, _, _, _, _, _⟩) (v := undef) rfl (by kernel_rfl) (by kernel_rfl) (by kernel_rfl) (fun _ _ _ h => h) (Or.inr ⟨by rfl, rfl⟩) (by assumption) ?_
                  try simp only [Act.put, List.setIfInBounds_toArray, List.set_cons_zero, List.set_cons_succ]
                  refine wpAnyH_take (i := 25) (oi := ⟨some 73, _, _, _, _, _⟩) (v := undef) rfl (by kernel_rfl) (by kernel_rfl) (by kernel_rfl) (fun _ _ _ h => h) (Or.inr ⟨by rfl, rfl⟩) (by assumption) ?_
                  try simp only [Act.put, List.setIfInBounds_toArray, List.set_cons_zero, List.set_cons_succ]
                  refine wpAnyH_take (i := 26) (oi := ⟨some 74, _, _, _, _, _⟩) (v := undef) rfl (by kernel_rfl) (by kernel_rfl) (by kernel_rfl) (fun _ _ _ h => h) (Or.inr ⟨by rfl, rfl⟩) (by assumption) ?_
                  try simp only [Act.put, List.setIfInBounds_toArray, List.set_cons_zero, List.set_cons_succ]
                  refine wpAnyH_take (i := 27) (oi := ⟨some 75, _, _, _, _, _⟩) (v := undef) rfl (by kernel_rfl) (by kernel_rfl) (by kernel_rfl) (fun _ _ _ h => h) (Or.inr ⟨by rfl, rfl⟩) (by assumption) ?_
                  try simp only [Act.put, List.setIfInBounds_toArray, List.set_cons_zero, List.set_cons_succ]
                  refine wpAnyH_take (i := 28) (oi := ⟨some 76, _, _, _, _, _⟩) (v := ?_) rfl (by kernel_rfl) (by kernel_rfl) (by kernel_rfl) (fun _ _ _ h => h) (Or.inl ⟨by rfl, ?_⟩) (by assumption) ?_
                  rotate_left
                  · intro w hSw
                    (try dsimp only at hSw)
                    (try go_split_ands)
                    go_simp
                    with_reducible rfl
                  try simp only [Act.put, List.setIfInBounds_toArray, List.set_cons_zero, List.set_cons_succ]
                  refine wpAnyH_done (by kernel_rfl) ?_ _
                  go_wp2_with fail
                  go_meet
                  exact ⟨by rw [HFIN.out], hbe5⟩
              · have hcmp : ((S hd).toList == (S y8).toList) = false := by
                  rw [beq_eq_false_iff_ne]
                  intro e
                  exact hr (HIS.out.1 (S_inj e))
                have hcmp3 : ¬ hd = y8 := fun e => hr (HIS.out.1 e)
                have HFIN : Hid (decide (Wl.right y ∧ N / 16384 % 2 = i ∧ N % 8192 ≤ ab ∧ gq ≤ N / 16384) = false) := Lib.hid (decide_eq_false (fun h => hr h.1))
                clear hr HIS
                refine wp_region_held_drew (S := fun wx => (convert 36 9 (.slice (some ⟨q, o, none⟩) 8 c)).run Tryd.prog wx = .ok (.string (S y8)) wx ∧ wx.cell? ⟨g, 1, none⟩ = some (.int .i64 (gq : Int)) ∧ Below wr.heap.size wr wx) (by kernel_rfl) (HK.out _ hbd) (fun hHeld => ?_)
                refine wpAnyH_take (i := 0) (oi := ⟨some 48, _, _, _, _, _⟩) (v := ?_) rfl (by kernel_rfl) (by kernel_rfl) (by kernel_rfl) (fun _ _ _ h => h) (Or.inl ⟨by rfl, ?_⟩) (by assumption) ?_
                rotate_left
                · intro w hSw
                  (try dsimp only at hSw)
                  (try go_split_ands)
                  go_simp
                  with_reducible rfl
                try simp only [Act.put, List.setIfInBounds_toArray, List.set_cons_zero, List.set_cons_succ]
                refine wpAnyH_take (i := 1) (oi := ⟨some 49, _, _, _, _, _⟩) (v := ?_) rfl (by kernel_rfl) (by kernel_rfl) (by kernel_rfl) (fun _ _ _ h => h) (Or.inl ⟨by rfl, ?_⟩) (by assumption) ?_
                rotate_left
                · intro w hSw
                  (try dsimp only at hSw)
                  (try go_split_ands)
                  go_simp
                  with_reducible rfl
                try simp only [Act.put, List.setIfInBounds_toArray, List.set_cons_zero, List.set_cons_succ]
                refine wpAnyH_take (i := 2) (oi := ⟨some 50, _, _, _, _, _⟩) (v := ?_) rfl (by kernel_rfl) (by kernel_rfl) (by kernel_rfl) (fun _ _ _ h => h) (Or.inl ⟨by rfl, ?_⟩) (by assumption) ?_
                rotate_left
                · intro w hSw
                  (try dsimp only at hSw)
                  (try go_split_ands)
                  go_simp
                  with_reducible rfl
                try simp only [Act.put, List.setIfInBounds_toArray, List.set_cons_zero, List.set_cons_succ]
                refine wpAnyH_take (i := 5) (oi := ⟨some 53, _, _, _, _, _⟩) (v := ?_) rfl (by kernel_rfl) (by kernel_rfl) (by kernel_rfl) (fun _ _ _ h => h) (Or.inl ⟨by rfl, ?_⟩) (by assumption) ?_
                rotate_left
                · intro w hSw
                  (try dsimp only at hSw)
                  (try go_split_ands)
                  go_simp
                  with_reducible rfl
                try simp only [Act.put, List.setIfInBounds_toArray, List.set_cons_zero, List.set_cons_succ]
                refine wpAnyH_take (i := 6) (oi := ⟨some 54, _, _, _, _, _⟩) (v := ?_) rfl (by kernel_rfl) (by kernel_rfl) (by kernel_rfl) (fun _ _ _ h => h) (Or.inl ⟨by rfl, ?_⟩) (by assumption) ?_
                rotate_left
                · intro w hSw
                  (try dsimp only at hSw)
                  (try go_split_ands)
                  go_simp
                  with_reducible rfl
                try simp only [Act.put, List.setIfInBounds_toArray, List.set_cons_zero, List.set_cons_succ]
                refine wpAnyH_take (i := 7) (oi := ⟨some 55, _, _, _, _, _⟩) (v := ?_) rfl (by kernel_rfl) (by kernel_rfl) (by kernel_rfl) (fun _ _ _ h => h) (Or.inl ⟨by rfl, ?_⟩) (by assumption) ?_
                rotate_left
                · intro w hSw
                  (try dsimp only at hSw)
                  (try go_split_ands)
                  go_simp
                  with_reducible rfl
                try simp only [Act.put, List.setIfInBounds_toArray, List.set_cons_zero, List.set_cons_succ]
                refine wpAnyH_ready (rs := [3]) (by kernel_rfl) (by simp) ?_
                refine AllReadyH.cons (o := ⟨some 51, _, _, _, _, _⟩) rfl (fun K hK => ?_) AllReadyH.nil
                go_simp
                go_at_call 26
                refine (HHD.out wr.drew).mono ?_
                rintro e w5 ⟨A5, c5, rfl, hrow5, hb5⟩
                have hbe5 := hbd.trans (hb5.mono hbd.size)
                have ch5 := bin_string w5 A5 hd c5 (row_cells hrow5)
                rw [HHL8.out] at ch5
                clear hrow5 hb5
                refine hK.out _ _ ?_ (fun hHeld => ?_)
                · exact HK.out _ hbe5
                clear hK K
                try simp only [Act.put, List.setIfInBounds_toArray, List.set_cons_zero, List.set_cons_succ]
                refine wpAnyH_ready (rs := [4]) (by kernel_rfl) (by simp) ?_
                refine AllReadyH.cons (o := ⟨some 52, _, _, _, _, _⟩) rfl (fun K hK => ?_) AllReadyH.nil
                go_simp
                refine hK.out _ _ ?_ (fun hHeld => ?_)
                · exact HK.out _ hbe5
                clear hK K
                try simp only [Act.put, List.setIfInBounds_toArray, List.set_cons_zero, List.set_cons_succ]
                refine wpAnyH_take (i := 8) (oi := ⟨some 56, _, _, _, _, _⟩) (v := ?_) rfl (by kernel_rfl) (by kernel_rfl) (by kernel_rfl) (fun _ _ _ h => h) (Or.inl ⟨by rfl, ?_⟩) (by assumption) ?_
                rotate_left
                · intro w hSw
                  (try dsimp only at hSw)
                  (try go_split_ands)
                  go_simp
                  with_reducible rfl
                try simp only [Act.put, List.setIfInBounds_toArray, List.set_cons_zero, List.set_cons_succ]
                refine wpAnyH_take (i := 9) (oi := ⟨some 57, _, _, _, _, _⟩) (v := ?_) rfl (by kernel_rfl) (by kernel_rfl) (by kernel_rfl) (fun _ _ _ h => h) (Or.inl ⟨by rfl, ?_⟩) (by assumption) ?_
                rotate_left
                · intro w hSw
                  (try dsimp only at hSw)
                  (try go_split_ands)
                  go_simp
                  with_reducible rfl
                try simp only [Act.put, List.setIfInBounds_toArray, List.set_cons_zero, List.set_cons_succ]
                refine wpAnyH_take (i := 10) (oi := ⟨some 58, _, _, _, _, _⟩) (v := undef) rfl (by kernel_rfl) (by kernel_rfl) (by kernel_rfl) (fun _ _ _ h => h) (Or.inr ⟨by rfl, rfl⟩) (by assumption) ?_
                try simp only [Act.put, List.setIfInBounds_toArray, List.set_cons_zero, List.set_cons_succ]
                refine wpAnyH_take (i := 11) (oi := ⟨some 59, _, _, _, _, _⟩) (v := undef) rfl (by kernel_rfl) (by kernel_rfl) (by kernel_rfl) (fun _ _ _ h => h) (Or.inr ⟨by rfl, rfl⟩) (by assumption) ?_
                try simp only [Act.put, List.setIfInBounds_toArray, List.set_cons_zero, List.set_cons_succ]
                refine wpAnyH_take (i := 12) (oi := ⟨some 60, _, _, _, _, _⟩) (v := undef) rfl (by kernel_rfl) (by kernel_rfl) (by kernel_rfl) (fun _ _ _ h => h) (Or.inr ⟨by rfl, rfl⟩) (by assumption) ?_
                try simp only [Act.put, List.setIfInBounds_toArray, List.set_cons_zero, List.set_cons_succ]
                refine wpAnyH_take (i := 13) (oi := ⟨some 61, _, _, _, _, _⟩) (v := undef) rfl (by kernel_rfl) (by kernel_rfl) (by kernel_rfl) (fun _ _ _ h => h) (Or.inr ⟨by rfl, rfl⟩) (by assumption) ?_
                try simp only [Act.put, List.setIfInBounds_toArray, List.set_cons_zero, List.set_cons_succ]
                refine wpAnyH_take (i := 14) (oi := ⟨some 62, _, _, _, _, _⟩) (v := ?_) rfl (by kernel_rfl) (by kernel_rfl) (by kernel_rfl) (fun _ _ _ h => h) (Or.inl ⟨by rfl, ?_⟩) (by assumption) ?_
                rotate_left
                · intro w hSw
                  (try dsimp only at hSw)
                  (try go_split_ands)
                  go_simp
                  with_reducible rfl
                try simp only [Act.put, List.setIfInBounds_toArray, List.set_cons_zero, List.set_cons_succ]
                refine wpAnyH_take (i := 15) (oi := ⟨some 63, _, _, _, _, _⟩) (v := ?_) rfl (by kernel_rfl) (by kernel_rfl) (by kernel_rfl) (fun _ _ _ h => h) (Or.inl ⟨by rfl, ?_⟩) (by assumption) ?_
                rotate_left
                · intro w hSw
                  (try dsimp only at hSw)
                  (try go_split_ands)
                  go_simp
                  with_reducible rfl
                try simp only [Act.put, List.setIfInBounds_toArray, List.set_cons_zero, List.set_cons_succ]
                refine wpAnyH_take (i := 16) (oi := ⟨some 64, _, _, _, _, _⟩) (v := undef) rfl (by kernel_rfl) (by kernel_rfl) (by kernel_rfl) (fun _ _ _ h => h) (Or.inr ⟨by rfl, rfl⟩) (by assumption) ?_
                try simp only [Act.put, List.setIfInBounds_toArray, List.set_cons_zero, List.set_cons_succ]
                refine wpAnyH_take (i := 17) (oi := ⟨some 65, _, _, _, _, _⟩) (v := undef) rfl (by kernel_rfl) (by kernel_rfl) (by kernel_rfl) (fun _ _ _ h => h) (Or.inr ⟨by rfl, rfl⟩) (by assumption) ?_
                try simp only [Act.put, List.setIfInBounds_toArray, List.set_cons_zero, List.set_cons_succ]
                refine wpAnyH_ready (rs := [18]) (by kernel_rfl) (by simp) ?_
                refine AllReadyH.cons (o := ⟨some 66, _, _, _, _, _⟩) rfl (fun K hK => ?_) AllReadyH.nil
                rw [if_neg (by simp [Region.wanted, yielded])]
                refine hK.out _ _ ?_ (fun hHeld => ?_)
                · exact HK.out _ hbe5
                clear hK K
                try simp only [Act.put, List.setIfInBounds_toArray, List.set_cons_zero, List.set_cons_succ]
                refine wpAnyH_take (i := 19) (oi := ⟨some 67, _, _, _, _, _⟩) (v := undef) rfl (by kernel_rfl) (by kernel_rfl) (by kernel_rfl) (fun _ _ _ h => h) (Or.inr ⟨by rfl, rfl⟩) (by assumption) ?_
                try simp only [Act.put, List.setIfInBounds_toArray, List.set_cons_zero, List.set_cons_succ]
                refine wpAnyH_take (i := 20) (oi := ⟨some 68, _, _, _, _, _⟩) (v := ?_) rfl (by kernel_rfl) (by kernel_rfl) (by kernel_rfl) (fun _ _ _ h => h) (Or.inl ⟨by rfl, ?_⟩) (by assumption) ?_
                rotate_left
                · intro w hSw
                  (try dsimp only at hSw)
                  (try go_split_ands)
                  go_simp
                  with_reducible rfl
                try simp only [Act.put, List.setIfInBounds_toArray, List.set_cons_zero, List.set_cons_succ]
                refine wpAnyH_take (i := 21) (oi := ⟨some 69, _, _, _, _, _⟩) (v := ?_) rfl (by kernel_rfl) (by kernel_rfl) (by kernel_rfl) (fun _ _ _ h => h) (Or.inl ⟨by rfl, ?_⟩) (by assumption) ?_
                rotate_left
                · intro w hSw
                  (try dsimp only at hSw)
                  (try go_split_ands)
                  go_simp
                  with_reducible rfl
                try simp only [Act.put, List.setIfInBounds_toArray, List.set_cons_zero, List.set_cons_succ]
                refine wpAnyH_take (i := 22) (oi := ⟨some 70, _, _, _, _, _⟩) (v := undef) rfl (by kernel_rfl) (by kernel_rfl) (by kernel_rfl) (fun _ _ _ h => h) (Or.inr ⟨by rfl, rfl⟩) (by assumption) ?_
                try simp only [Act.put, List.setIfInBounds_toArray, List.set_cons_zero, List.set_cons_succ]
                refine wpAnyH_take (i := 23) (oi := ⟨some 71, _, _, _, _, _⟩) (v := undef) rfl (by kernel_rfl) (by kernel_rfl) (by kernel_rfl) (fun _ _ _ h => h) (Or.inr ⟨by rfl, rfl⟩) (by assumption) ?_
                try simp only [Act.put, List.setIfInBounds_toArray, List.set_cons_zero, List.set_cons_succ]
                refine wpAnyH_take (i := 24) (oi := ⟨some 72, _, _, _, _, _⟩) (v := undef) rfl (by kernel_rfl) (by kernel_rfl) (by kernel_rfl) (fun _ _ _ h => h) (Or.inr ⟨by rfl, rfl⟩) (by assumption) ?_
                try simp only [Act.put, List.setIfInBounds_toArray, List.set_cons_zero, List.set_cons_succ]
                refine wpAnyH_take (i := 25) (oi := ⟨some 73, _, _, _, _, _⟩) (v := undef) rfl (by kernel_rfl) (by kernel_rfl) (by kernel_rfl) (fun _ _ _ h => h) (Or.inr ⟨by rfl, rfl⟩) (by assumption) ?_
                try simp only [Act.put, List.setIfInBounds_toArray, List.set_cons_zero, List.set_cons_succ]
                refine wpAnyH_take (i := 26) (oi := ⟨some 74, _, _, _, _, _⟩) (v := undef) rfl (by kernel_rfl) (by kernel_rfl) (by kernel_rfl) (fun _ _ _ h => h) (Or.inr ⟨by rfl, rfl⟩) (by assumption) ?_
                try simp only [Act.put, List.setIfInBounds_toArray, List.set_cons_zero, List.set_cons_succ]
                refine wpAnyH_take (i := 27) (oi := ⟨some 75, _, _, _, _, _⟩) (v := undef) rfl (by kernel_rfl) (by kernel_rfl) (by kernel_rfl) (fun _ _ _ h => h) (Or.inr ⟨by rfl, rfl⟩) (by assumption) ?_
                try simp only [Act.put, List.setIfInBounds_toArray, List.set_cons_zero, List.set_cons_succ]
                refine wpAnyH_take (i := 28) (oi := ⟨some 76, _, _, _, _, _⟩) (v := ?_) rfl (by kernel_rfl) (by kernel_rfl) (by kernel_rfl) (fun _ _ _ h => h) (Or.inl ⟨by rfl, ?_⟩) (by assumption) ?_
                rotate_left
                · intro w hSw
                  (try dsimp only at hSw)
                  (try go_split_ands)
                  go_simp
                  with_reducible rfl
                try simp only [Act.put, List.setIfInBounds_toArray, List.set_cons_zero, List.set_cons_succ]
                refine wpAnyH_done (by kernel_rfl) ?_ _
                go_wp2_with fail
                go_meet
                exact ⟨by rw [HFIN.out], hbe5⟩
            case rest =>
            obtain ⟨hc1, hbc⟩ := hcut
            subst hc1
            have hgc := (hbc.block g (Array.getElem?_eq_some_iff.1 HRW.out).1).trans HRW.out
            have hlh : (Wl.hdOf y).gen = N / 16384 ∧ (Wl.hdOf y).area = N / 8192 % 2 ∧ (Wl.hdOf y).used = N % 8192 := by rw [HNN.out]; exact ⟨rfl, rfl, rfl⟩
            have HNX : Hid (Wl.seenTo n d.kept (i + 1) = if Wl.right y ∧ N / 16384 % 2 = i ∧ N % 8192 ≤ ab ∧ gq ≤ N / 16384 then ⟨N / 16384, N / 8192 % 2, N % 8192⟩ else Wl.seenTo n d.kept i) := Lib.hid (by
              show Wl.bump (Wl.seenTo n d.kept i) (Wl.readH n i (Dk.blk d.kept i)) = _
              rw [← HY.out]
              unfold Wl.readH
              rw [hlh.1, hlh.2.2, ← HAB.out]
              by_cases h3 : Wl.right y ∧ N / 16384 % 2 = i ∧ N % 8192 ≤ ab
              · rw [if_pos h3]
                show (if (Wl.seenTo n d.kept i).gen ≤ (Wl.hdOf y).gen then Wl.hdOf y else _) = _
                rw [hlh.1, ← HGQ.out]
                have he : Wl.hdOf y = ⟨N / 16384, N / 8192 % 2, N % 8192⟩ := by rw [HNN.out]; rfl
                rw [he]
                by_cases h4 : gq ≤ N / 16384
                · rw [if_pos h4, if_pos ⟨h3.1, h3.2.1, h3.2.2, h4⟩]
                · rw [if_neg h4, if_neg (fun h => h4 h.2.2.2)]
              · rw [if_neg h3, if_neg (fun h => h3 ⟨h.1, h.2.1, h.2.2.1⟩)]
                rfl)
            clear hlh
            have HBC := Lib.hid (HB.out.trans (hbc.mono (by have := (Array.getElem?_eq_some_iff.1 HRW.out).1; omega)))
            have HGC := Lib.hid hgc
            by_cases hq : Wl.right y ∧ N / 16384 % 2 = i ∧ N % 8192 ≤ ab ∧ gq ≤ N / 16384
            · rw [if_pos hq] at HNX
              rw [decide_eq_true hq]
              have c1 := cell_of_row wc g 1 _ _ _ hgc
              have c2 := cell_of_row wc g 2 _ _ _ hgc
              have c3 := cell_of_row wc g 3 _ _ _ hgc
              have f1 := frozen_of_row wc g 1 _ _ hgc
              have f2 := frozen_of_row wc g 2 _ _ hgc
              have f3 := frozen_of_row wc g 3 _ _ hgc
              clear hq hgc hbc
              go_wp2_with fail
              go_roundw
              case rel =>
                refine ⟨i + 1, by omega, by go_num, ((HBC.out.setCell (p := ⟨g, 1, none⟩) (Nat.le_refl _) _).setCell (p := ⟨g, 2, none⟩) (Nat.le_refl _) _).setCell (p := ⟨g, 3, none⟩) (Nat.le_refl _) _, ?_⟩
                rw [HNX.out, rl_three HGC.out]
                rfl
              case measure => simp [intOf]; omega
            · rw [if_neg hq] at HNX
              rw [decide_eq_false hq]
              clear hq hgc hbc
              go_wp2_with fail
              go_roundw
              case rel => exact ⟨i + 1, by omega, by go_num, HBC.out, by rw [HNX.out]; exact HGC.out⟩
              case measure => simp [intOf]; omega
      · have hiI : ¬ (i : Int) < 2 := by omega
        have hi3 : i = 2 := by omega
        subst hi3
        have hlt3 := Wl.seenTo_lt n d.kept 2
        rw [Wl.seenTo_two] at hlt3 hgl
        have HOK : Hid (Wl.openK n d.kept = if (Fr.scan (Wl.bytesAt n d.kept (Wl.newest n d.kept).area (Wl.newest n d.kept).used)).2 = (Wl.newest n d.kept).used then .ok ⟨(Wl.newest n d.kept).gen, (Wl.newest n d.kept).area, Wl.bytesAt n d.kept (Wl.newest n d.kept).area (Wl.newest n d.kept).used⟩ else .error 20) := Lib.hid (by unfold Wl.openK; rw [if_neg h4])
        obtain ⟨nw, hnw⟩ : ∃ nw, nw = Wl.newest n d.kept := ⟨_, rfl⟩
        rw [← hnw] at hlt3 hgl HOK
        obtain ⟨ge, ar, us⟩ := nw
        dsimp only at hlt3 HOK
        have hkl : d.kept.length = 32 * n := by rw [hok.kept, HN.out]
        have hsl := Wl.start_le (n := n) (a := ar) (by omega) hlt3.2.1
        have hbl := bytesAt_len hkl (by omega) hlt3.2.1 hlt3.2.2
        have hal := Wl.areaBytes_lt (n := n) (by have := hok.n; have := HN.out; omega)
        have hn512 : n ≤ 512 := by have := hok.n; have := HN.out; omega
        obtain ⟨nb, hnb⟩ : ∃ nb, nb = Wl.areaBlocks n := ⟨_, rfl⟩
        have hnb1 : 1 ≤ nb := by rw [hnb]; unfold Wl.areaBlocks; omega
        obtain ⟨ab, hab⟩ : ∃ ab, ab = Wl.areaBytes n := ⟨_, rfl⟩
        have habn : ab = nb * 32 := by rw [hab, hnb]; rfl
        obtain ⟨an, han⟩ : ∃ an, an = ar * nb := ⟨_, rfl⟩
        have hstart : Wl.start n ar = 2 + an := by rw [han, hnb]; rfl
        rw [hstart, ← hnb] at hsl
        have hq1 : ar * ab = an * 32 := by rw [habn, han, Nat.mul_assoc]
        have hanl : an ≤ 512 := by omega
        obtain ⟨M, hM⟩ : ∃ M, M = d.kept.drop (32 * (2 + an)) := ⟨_, rfl⟩
        have HE : Hid (∀ k, k ≤ nb → (M.take (32 * k)).length = 32 * k) := Lib.hid (fun k hk => by
          rw [hM, List.length_take, List.length_drop, hkl]
          omega)
        have HBY : Hid (Wl.bytesAt n d.kept ar us = M.take us) := Lib.hid (by unfold Wl.bytesAt; rw [hstart, hM])
        have HTM : Hid (∀ k, M.take (32 * k) ++ Dk.blk d.kept (2 + an + k) = M.take (32 * (k + 1))) := Lib.hid (fun k => by rw [hM]; exact take_more d.kept (2 + an) k)
        have HBL : Hid (∀ k, k < nb → (Dk.blk d.kept (2 + an + k)).length = 32) := Lib.hid (fun k hk => Dk.blk_len hok.kept (by have := HN.out; omega))
        rw [← hab] at hlt3 hal
        rw [HBY.out] at HOK hbl
        have HSZ := Lib.hid (fun (wx : World) (hx : Below g w wx) => refSize_any wx b d (HR.out.1.same (w' := wx) (fun x hx' => hx.block x (by rw [HG.out]; exact HR.out.2.all x hx'))) (by have := HN.out; omega))
        rw [← HN.out, ← hab] at HSZ
        have HRD := Lib.hid (fun (wx : World) (hx : Below g w wx) (k : Nat) (hk : k < nb) => (by
          have e := ref_read_cap wx b d (2 + an + k) (HR.out.1.same (w' := wx) (fun x hx' => hx.block x (by rw [HG.out]; exact HR.out.2.all x hx'))) (HR.out.2.more hx.size) (by have := HN.out; omega) (by rw [hst]; exact Nat.zero_le _)
          rw [hst, show ((2 + an + k : Nat) : Int) = 2 + (an : Int) + (k : Int) by omega] at e
          exact e : Calls Tryd.prog 63 #[.pointer (some ⟨b.P, 0, none⟩), .int .i64 (2 + (an : Int) + (k : Int))] wx fun e w' => (∃ A c, e = .returned (.slice A 32 c) ∧ 32 ≤ c ∧ BIn wx A (Dk.seen (2 + an + k) (Dk.blk d.kept (2 + an + k)) [])) ∧ wx = w'))
        have HBB := Lib.hid hb
        have HGL := Lib.hid hgl
        have HLT := Lib.hid hlt3
        have HABN := Lib.hid habn
        have HBYL := Lib.hid hbl
        have hab32 : (ab : Int) / 32 = (nb : Int) := by omega
        obtain ⟨q1, hq1e⟩ : ∃ q1, q1 = ar * ab := ⟨_, rfl⟩
        have hq1c : q1 = an * 32 := hq1e.trans hq1
        have hq32 : (q1 : Int) / 32 = (an : Int) := by omega
        have hq1I : (ar : Int) * (ab : Int) = (q1 : Int) := by rw [hq1e, Int.natCast_mul]
        have wq1 : IntKind.i64.wrap (ar * ab : Int) = (q1 : Int) := by rw [hq1I]; exact IntWalk.i64_in _ (by clear hq1 hq1e hq1I; omega)
        have wan : IntKind.i64.wrap (an : Int) = (an : Int) := IntWalk.i64_in _ (by omega)
        have wq2 : IntKind.i64.wrap (2 + (an : Int)) = 2 + (an : Int) := IntWalk.i64_in _ (by omega)
        have hnb2 : nb ≤ 512 := by omega
        clear hb hgl hlt3 hnw hkl hsl hbl hal hnb hab habn han hstart hq1 hM hq1e hq1I hq1c hi hi2
        go_wp2_with fail
        go_loopw [12, 13] (fun bv iv wx => ∃ (k : Nat) (A : Option Addr) (c : Nat), k ≤ nb ∧ iv = .int .i64 (k : Int) ∧ bv = .slice A (32 * k) c ∧ Row (g + 1) wx bv (M.take (32 * k)) ∧ Below g w wx ∧ wx.heap[g]? = some (.cells (rlC b.P ⟨ge, ar, us⟩ (.slice none 0 0)) 111 (0, 0))) (fun _ iv _ => nb - (intOf iv).toNat)
        case atStart => exact ⟨0, none, 0, Nat.zero_le _, rfl, rfl, by rw [Nat.mul_zero, List.take_zero]; exact World.ownsRow_nil _ _ _ _, HBB.out, HGL.out⟩
        case round =>
          obtain ⟨k, A, c, hk, rfl, rfl, hrow, hb, hgl⟩ := hrel
          have HSZ1 := Lib.hid (HSZ.out wr hb)
          have HSZ2 := Lib.hid (HSZ.out wr.drew hb.drew)
          have ca := cell_of_row wr g 2 _ _ _ hgl
          have cu : wr.cell? ⟨g, 3, none⟩ = some (.int .i64 (us : Int)) := cell_of_row wr g 3 _ _ _ hgl
          have hglt := (Array.getElem?_eq_some_iff.1 hgl).1
          have HROW := Lib.hid hrow
          have HB := Lib.hid hb
          have HGL2 := Lib.hid hgl
          by_cases hlt : k < nb
          · have hkI : (k : Int) < (nb : Int) := by omega
            have wq3 : IntKind.i64.wrap (2 + (an : Int) + (k : Int)) = 2 + (an : Int) + (k : Int) := IntWalk.i64_in _ (by omega)
            have HRD2 := Lib.hid (HRD.out wr.drew hb.drew k hlt)
            have hl1 := HBL.out k hlt
            have hl2 := HE.out k (by omega)
            obtain ⟨y, hy⟩ : ∃ y, y = Dk.blk d.kept (2 + an + k) := ⟨_, rfl⟩
            have HTY : Hid (M.take (32 * k) ++ y = M.take (32 * (k + 1))) := Lib.hid (by rw [hy]; exact HTM.out k)
            rw [← hy] at HRD2 hl1
            have HL12 := Lib.hid (And.intro hl1 hl2)
            clear hrow hb hgl hl1 hl2 hy
            go_wp2_with fail
            refine HSZ1.out.mono ?_
            rintro _ _ ⟨rfl, rfl⟩
            go_wp2_with fail
            have hbg : Below (g + 1) wr wr.drew := (Below.refl _ _).drew
            have HKK := Lib.hid (fun (wx : World) (hx : Below (g + 1) wr wx) => And.intro ((hx.cell (p := ⟨g, 2, none⟩) (Nat.lt_succ_self g)).trans ca) hx)
            refine wp_region_held_drew (S := fun wx => wx.cell? ⟨g, 2, none⟩ = some (.int .i64 (ar : Int)) ∧ Below (g + 1) wr wx) (by kernel_rfl) (HKK.out _ hbg) (fun hHeld => ?_)
            refine wpAnyH_take (i := 0) (oi := ⟨some 96, _, _, _, _, _⟩) (v := ?_) rfl (by kernel_rfl) (by kernel_rfl) (by kernel_rfl) (fun _ _ _ h => h) (Or.inl ⟨by rfl, ?_⟩) (by assumption) ?_
            rotate_left
            · intro w hSw
              (try dsimp only at hSw)
              (try go_split_ands)
              go_simp
              with_reducible rfl
            try simp only [Act.put, List.setIfInBounds_toArray, List.set_cons_zero, List.set_cons_succ]
            refine wpAnyH_take (i := 1) (oi := ⟨some 97, _, _, _, _, _⟩) (v := ?_) rfl (by kernel_rfl) (by kernel_rfl) (by kernel_rfl) (fun _ _ _ h => h) (Or.inl ⟨by rfl, ?_⟩) (by assumption) ?_
            rotate_left
            · intro w hSw
              (try dsimp only at hSw)
              (try go_split_ands)
              go_simp
              with_reducible rfl
            try simp only [Act.put, List.setIfInBounds_toArray, List.set_cons_zero, List.set_cons_succ]
            refine wpAnyH_take (i := 2) (oi := ⟨some 98, _, _, _, _, _⟩) (v := ?_) rfl (by kernel_rfl) (by kernel_rfl) (by kernel_rfl) (fun _ _ _ h => h) (Or.inl ⟨by rfl, ?_⟩) (by assumption) ?_
            rotate_left
            · intro w hSw
              (try dsimp only at hSw)
              (try go_split_ands)
              go_simp
              with_reducible rfl
            try simp only [Act.put, List.setIfInBounds_toArray, List.set_cons_zero, List.set_cons_succ]
            refine wpAnyH_take (i := 3) (oi := ⟨some 99, _, _, _, _, _⟩) (v := ?_) rfl (by kernel_rfl) (by kernel_rfl) (by kernel_rfl) (fun _ _ _ h => h) (Or.inl ⟨by rfl, ?_⟩) (by assumption) ?_
            rotate_left
            · intro w hSw
              (try dsimp only at hSw)
              (try go_split_ands)
              go_simp
              with_reducible rfl
            try simp only [Act.put, List.setIfInBounds_toArray, List.set_cons_zero, List.set_cons_succ]
            refine wpAnyH_take (i := 4) (oi := ⟨some 100, _, _, _, _, _⟩) (v := ?_) rfl (by kernel_rfl) (by kernel_rfl) (by kernel_rfl) (fun _ _ _ h => h) (Or.inl ⟨by rfl, ?_⟩) (by assumption) ?_
            rotate_left
            · intro w hSw
              (try dsimp only at hSw)
              (try go_split_ands)
              go_simp
              with_reducible rfl
            try simp only [Act.put, List.setIfInBounds_toArray, List.set_cons_zero, List.set_cons_succ]
            refine wpAnyH_take (i := 5) (oi := ⟨some 101, _, _, _, _, _⟩) (v := ?_) rfl (by kernel_rfl) (by kernel_rfl) (by kernel_rfl) (fun _ _ _ h => h) (Or.inl ⟨by rfl, ?_⟩) (by assumption) ?_
            rotate_left
            · intro w hSw
              (try dsimp only at hSw)
              (try go_split_ands)
              go_simp
              with_reducible rfl
            try simp only [Act.put, List.setIfInBounds_toArray, List.set_cons_zero, List.set_cons_succ]
            refine wpAnyH_take (i := 6) (oi := ⟨some 102, _, _, _, _, _⟩) (v := ?_) rfl (by kernel_rfl) (by kernel_rfl) (by kernel_rfl) (fun _ _ _ h => h) (Or.inl ⟨by rfl, ?_⟩) (by assumption) ?_
            rotate_left
            · intro w hSw
              (try dsimp only at hSw)
              (try go_split_ands)
              go_simp
              with_reducible rfl
            try simp only [Act.put, List.setIfInBounds_toArray, List.set_cons_zero, List.set_cons_succ]
            refine wpAnyH_take (i := 11) (oi := ⟨some 107, _, _, _, _, _⟩) (v := ?_) rfl (by kernel_rfl) (by kernel_rfl) (by kernel_rfl) (fun _ _ _ h => h) (Or.inl ⟨by rfl, ?_⟩) (by assumption) ?_
            rotate_left
            · intro w hSw
              (try dsimp only at hSw)
              (try go_split_ands)
              go_simp
              with_reducible rfl
            try simp only [Act.put, List.setIfInBounds_toArray, List.set_cons_zero, List.set_cons_succ]
            refine wpAnyH_ready (rs := [7]) (by kernel_rfl) (by simp) ?_
            refine AllReadyH.cons (o := ⟨some 103, _, _, _, _, _⟩) rfl (fun K hK => ?_) AllReadyH.nil
            go_simp
            go_at_call 64
            refine HSZ2.out.mono ?_
            rintro e w6 ⟨rfl, rfl⟩
            refine hK.out _ _ ?_ (fun hHeld => ?_)
            · exact HKK.out _ hbg
            clear hK K
            try simp only [Act.put, List.setIfInBounds_toArray, List.set_cons_zero, List.set_cons_succ]
            refine wpAnyH_take (i := 8) (oi := ⟨some 104, _, _, _, _, _⟩) (v := ?_) rfl (by kernel_rfl) (by kernel_rfl) (by kernel_rfl) (fun _ _ _ h => h) (Or.inl ⟨by rfl, ?_⟩) (by assumption) ?_
            rotate_left
            · intro w hSw
              (try dsimp only at hSw)
              (try go_split_ands)
              go_simp
              with_reducible rfl
            try simp only [Act.put, List.setIfInBounds_toArray, List.set_cons_zero, List.set_cons_succ]
            refine wpAnyH_take (i := 9) (oi := ⟨some 105, _, _, _, _, _⟩) (v := ?_) rfl (by kernel_rfl) (by kernel_rfl) (by kernel_rfl) (fun _ _ _ h => h) (Or.inl ⟨by rfl, ?_⟩) (by assumption) ?_
            rotate_left
            · intro w hSw
              (try dsimp only at hSw)
              (try go_split_ands)
              go_simp
              with_reducible rfl
            try simp only [Act.put, List.setIfInBounds_toArray, List.set_cons_zero, List.set_cons_succ]
            refine wpAnyH_take (i := 10) (oi := ⟨some 106, _, _, _, _, _⟩) (v := ?_) rfl (by kernel_rfl) (by kernel_rfl) (by kernel_rfl) (fun _ _ _ h => h) (Or.inl ⟨by rfl, ?_⟩) (by assumption) ?_
            rotate_left
            · intro w hSw
              (try dsimp only at hSw)
              (try go_split_ands)
              go_simp
              with_reducible rfl
            try simp only [Act.put, List.setIfInBounds_toArray, List.set_cons_zero, List.set_cons_succ]
            refine wpAnyH_take (i := 12) (oi := ⟨some 108, _, _, _, _, _⟩) (v := ?_) rfl (by kernel_rfl) (by kernel_rfl) (by kernel_rfl) (fun _ _ _ h => h) (Or.inl ⟨by rfl, ?_⟩) (by assumption) ?_
            rotate_left
            · intro w hSw
              (try dsimp only at hSw)
              (try go_split_ands)
              go_simp
              with_reducible rfl
            try simp only [Act.put, List.setIfInBounds_toArray, List.set_cons_zero, List.set_cons_succ]
            refine wpAnyH_ready (rs := [13]) (by kernel_rfl) (by simp) ?_
            refine AllReadyH.cons (o := ⟨some 109, _, _, _, _, _⟩) rfl (fun K hK => ?_) AllReadyH.nil
            go_simp
            go_at_call 63
            refine HRD2.out.mono ?_
            rintro _ _ ⟨⟨A5, c5, rfl, hcc5, hA5⟩, rfl⟩
            refine hK.out _ _ ?_ (fun hHeld => ?_)
            · exact HKK.out _ hbg
            clear hK K
            try simp only [Act.put, List.setIfInBounds_toArray, List.set_cons_zero, List.set_cons_succ]
            refine wpAnyH_ready (rs := [14]) (by kernel_rfl) (by simp) ?_
            refine AllReadyH.cons (o := ⟨some 110, _, _, _, _, _⟩) rfl (fun K hK => ?_) AllReadyH.nil
            refine step_append_bytes rfl (.tmp 96) (.tmp 109) rfl (g + 1) (.slice A (32 * k) c) A5 c5 32 (M.take (32 * k)) y (by rfl) HL12.out.1 (by rfl) HROW.out (fun hn => by obtain ⟨q5, o5, e5, _, hc5⟩ := hA5 hn; exact ⟨q5, o5, e5, hc5⟩) (by rw [HL12.out.1, HL12.out.2]; omega) hglt ?_
            intro v4 w4 hown4 hgrow4
            have hb4 : Below (g + 1) wr w4 := ((Below.refl _ _).drew).grown hgrow4 hglt (fun kk hk => (World.ownsRow.lt HROW.out kk hk).1)
            refine hK.out _ _ ?_ (fun hHeld => ?_)
            · exact HKK.out _ hb4
            clear hK K
            try simp only [Act.put, List.setIfInBounds_toArray, List.set_cons_zero, List.set_cons_succ]
            refine wpAnyH_take (i := 15) (oi := ⟨some 12, _, _, _, _, _⟩) (v := ?_) rfl (by kernel_rfl) (by kernel_rfl) (by kernel_rfl) (fun _ _ _ h => h) (Or.inl ⟨by rfl, ?_⟩) (by assumption) ?_
            rotate_left
            · intro w hSw
              (try dsimp only at hSw)
              (try go_split_ands)
              go_simp
              with_reducible rfl
            try simp only [Act.put, List.setIfInBounds_toArray, List.set_cons_zero, List.set_cons_succ]
            refine wpAnyH_done (by kernel_rfl) ?_ _
            rw [HTY.out] at hown4
            obtain ⟨A4, c4, rfl, _⟩ := hown4.form
            have hl4 : (M.take (32 * (k + 1))).length = 32 * (k + 1) := HE.out (k + 1) (by omega)
            rw [hl4] at hown4 ⊢
            have hgl4 := (hb4.block g (Nat.lt_succ_self g)).trans HGL2.out
            have hbb4 := HB.out.trans (hb4.mono (Nat.le_succ g))
            have HOW := Lib.hid hown4
            clear hown4 hgrow4
            go_wp2_with fail
            go_roundw
            case rel => exact ⟨k + 1, A4, c4, by omega, by go_num, rfl, HOW.out, hbb4, hgl4⟩
            case measure => simp [intOf]; omega
          · have hkI : ¬ (k : Int) < (nb : Int) := by omega
            have hke : k = nb := by omega
            subst hke
            have hkl2 := HE.out k (Nat.le_refl _)
            have hus : us ≤ 32 * k := by have := HLT.out.2.2; have := HABN.out; omega
            have hrow2 := hrow
            rcases hrow.2 with ⟨hv, hn0⟩ | ⟨g1, cap, cur, hv, hbs, hg1, hnc, hcm, _⟩
            · rw [hkl2] at hn0
              omega
            injection hv with e1 e2 e3
            subst e1 e3
            rw [hkl2] at hnc
            unfold maxLen at hcm
            have huc : (us : Int) ≤ (c : Int) := by omega
            have hcells2 : Row (g + 1) wr (.slice (some ⟨g1, 0, none⟩) (M.take (32 * k)).length c) (M.take (32 * k)) := by rw [hkl2]; exact hrow2
            have hsub := sub_cells (a := 0) (m := us) (row_cells hcells2)
            rw [List.drop_zero, List.take_take, Nat.min_eq_left hus] at hsub
            have HSC := Lib.hid (refScan_any (some ⟨g1, 0, none⟩) c us (M.take us) wr HBYL.out hsub (by omega) (by omega) (by omega))
            have us0 : (0 : Int) ≤ (us : Int) := by omega
            clear hrow hrow2 hcells2 hsub hb hgl e2 hg1 hbs
            go_wp2_with fail
            refine HSZ1.out.mono ?_
            rintro _ _ ⟨rfl, rfl⟩
            go_wp2_with fail
            refine HSC.out.mono ?_
            rintro _ w2 ⟨A2, c2, m2, cs2, rfl, hlr2, hb2⟩
            have hgl3 := (hb2.block g hglt).trans HGL2.out
            have cu2 : w2.cell? ⟨g, 3, none⟩ = some (.int .i64 (us : Int)) := cell_of_row w2 g 3 _ _ _ hgl3
            have ca4 : w2.cell? ⟨g, 4, none⟩ = some (.slice none 0 0) := cell_of_row w2 g 4 _ _ _ hgl3
            have f4 := frozen_of_row w2 g 4 _ _ hgl3
            have HB2 := Lib.hid (HB.out.trans (hb2.mono (Nat.le_of_lt hglt)))
            have HLR2 := Lib.hid hlr2
            have HGL3 := Lib.hid hgl3
            obtain ⟨rc, hrc⟩ : ∃ rc, rc = (Fr.scan (M.take us)).2 := ⟨_, rfl⟩
            rw [← hrc] at HOK ⊢
            clear hlr2 hb2 hgl3 hrc HSC
            by_cases he : rc = us
            · subst he
              rw [if_pos rfl] at HOK
              go_wp2_with fail
              go_ret2
              rw [HOK.out]
              refine ⟨by rw [← HG.out]; exact HB2.out.setCell (p := ⟨g, 4, none⟩) (Nat.le_refl _) _, g, A2, m2, c2, cs2, rfl, by rw [HG.out]; exact Nat.le_refl _, ?_, ?_⟩
              · dsimp only
                rw [HBYL.out]
                exact rl_list HGL3.out _
              · have h1 := HLR2.out.beside (w' := w2.setCell ⟨g, 4, none⟩ (.slice A2 m2 c2)) (fun x hx _ => heap_setCell_other w2 ⟨g, 4, none⟩ x _ (by show x ≠ g; omega)) (by rw [World.size_setCell]; exact Nat.le_refl _)
                exact h1.base (by have := HG.out; omega)
            · have heI : ((rc : Int) != (us : Int)) = true := by simp; omega
              have heI2 : ¬ (rc : Int) = (us : Int) := by omega
              rw [if_neg he] at HOK
              go_wp2_with fail
              go_ret2
              rw [HOK.out]
              exact ⟨by rw [← HG.out]; exact HB2.out, rfl⟩
end Go.Proofs.YtkmljbbnpjlehaaDoor
namespace Go.Proofs.YtkmljbbnpjlehaaDoor
set_option maxRecDepth 8000
open Go.RowKit

set_option maxHeartbeats 3200000 in
theorem sameLog_any {F : Nat → Prop} {w : World} {P L LR : Nat} {d : Dk.D} {l : Wl.L} {rb : Rm} {A : Option Addr} {m c : Nat} (h : SY F w P L d l) (hH : Hs w) (hr : RAt w rb d) (ht : RThere w rb) (hg : w.heap[LR]? = some (.cells (rlC rb.P ⟨l.gen, l.area, l.fr.length⟩ (.slice A m c)) 111 (0, 0)))
    (hl : LC w w.heap.size A (Wl.rds l)) (hm : (Wl.rds l).length = m) (h2 : 2 ≤ d.n) (hu : l.fr.length ≤ Wl.areaBytes d.n) :
    Calls Tryd.prog 24 #[.pointer (some ⟨P, 0, none⟩), .pointer (some ⟨L, 0, none⟩), .pointer (some ⟨LR, 0, none⟩)] w fun e w' => e = .returned (.bool true) ∧ Below w.heap.size w w' := by
  have hok := hr.ok
  have hal := Wl.areaBytes_lt hok.n
  have hrec : ∀ wx, Below w.heap.size w wx → Calls Tryd.prog 33 #[.pointer (some ⟨L, 0, none⟩)] wx (RecOwn (Wl.rds l) wx) := fun wx hx => by
    obtain ⟨m', rfl, _, hm'⟩ := (h.keep hx).at
    exact records_own wx m' l (hH.next hx) hm' (by omega)
  have HREC := Lib.hid hrec
  have HLI := Lib.hid (fun (wx : World) (A1 : Option Addr) (c1 m1 : Nat) (cs1 : List Value) (w0 : World) (hx : Below w.heap.size w wx) (hq : LRow w0.heap.size wx A1 m1 c1 (Wl.rds l) cs1) => (by
    have e := refLists_any A1 A c1 c m1 m _ _ wx hq.len.symm hm hq.lc (hl.next hx) (by have := hq.cap; omega)
    rw [decide_eq_true rfl] at e
    exact e : Calls Tryd.prog 36 #[.slice A1 m1 c1, .slice A m c] wx fun e w' => e = .returned (.bool true) ∧ Below wx.heap.size wx w'))
  have HSM := Lib.hid (fun (wx : World) (A3 : Option Addr) (c3 base : Nat) (hx : Below w.heap.size w wx) (hown3 : wx.ownsRow base 5 1 (.slice A3 d.kept.length c3) d.kept.length (bcs d.kept)) => (by
    have e := same_any wx A3 rb.K d.kept d.kept c3 rb.cK (own_in hown3) (own_in (hr.same (w' := wx) (fun x hx' => hx.block x (ht.all x hx'))).kept)
    rw [decide_eq_true rfl] at e
    exact e : Calls Tryd.prog 30 #[.slice A3 d.kept.length c3, .slice rb.K d.kept.length rb.cK] wx fun e w' => e = .returned (.bool true) ∧ wx = w'))
  have HSY := Lib.hid h
  have HRA := Lib.hid (And.intro hr ht)
  have HG := Lib.hid hg
  have HL := Lib.hid hl
  have HM := Lib.hid hm
  have hLR := (Array.getElem?_eq_some_iff.1 hg).1
  have hRP := ht.all rb.P (by simp [Rm.F])
  have HRM := Lib.hid (fun (wx : World) (hx : Below w.heap.size w wx) => room_sy (h.keep hx) h2 hu)
  have HSZ := Lib.hid (fun (wx : World) (hx : Below w.heap.size w wx) => refSize_any wx rb d (hr.same (w' := wx) (fun x hx' => hx.block x (ht.all x hx'))) h2)
  obtain ⟨u, hue⟩ : ∃ u, u = l.fr.length := ⟨_, rfl⟩
  obtain ⟨ab, hab⟩ : ∃ ab, ab = Wl.areaBytes d.n := ⟨_, rfl⟩
  obtain ⟨gn, hgn⟩ : ∃ gn, gn = l.gen := ⟨_, rfl⟩
  obtain ⟨kl, hkl⟩ : ∃ kl, kl = d.kept.length := ⟨_, rfl⟩
  have hbyk : ∀ wx, Below w.heap.size w wx → Calls Tryd.prog 31 #[.pointer (some ⟨P, 0, none⟩)] wx (fun e w' => ∃ A3 c3 base, e = .returned (.slice A3 kl c3) ∧ w'.ownsRow base 5 1 (.slice A3 kl c3) kl (bcs d.kept) ∧ Below wx.heap.size wx w') := fun wx hx => by
    refine (bytes_sd ((h.keep hx).hd.sd)).mono ?_
    rintro _ w3 ⟨⟨A3, c3, rfl, hown3⟩, hb3⟩
    exact ⟨A3, c3, _, by rw [hkl], by rw [hkl]; exact hown3, hb3⟩
  have HBY := Lib.hid hbyk
  obtain ⟨sl, hsl⟩ : ∃ sl, sl = d.st.length := ⟨_, rfl⟩
  have wsub : IntKind.i64.wrap ((ab : Int) - (u : Int)) = (ab : Int) - (u : Int) := IntWalk.i64_in _ (by omega)
  rw [← hue, ← hab] at HRM
  rw [← hab] at HSZ
  have HCR : Hid (∀ wx, Below w.heap.size w wx → wx.cell? ⟨LR, 0, none⟩ = some (.pointer (some ⟨rb.P, 0, none⟩)) ∧ wx.cell? ⟨LR, 1, none⟩ = some (.int .i64 (gn : Int)) ∧ wx.cell? ⟨LR, 3, none⟩ = some (.int .i64 (u : Int)) ∧ wx.cell? ⟨LR, 4, none⟩ = some (.slice A m c) ∧ wx.cell? ⟨rb.P, 0, none⟩ = some (.slice rb.K kl rb.cK) ∧ wx.cell? ⟨rb.P, 1, none⟩ = some (.slice rb.S sl rb.cS)) := Lib.hid (fun wx hx => by
    have e1 := (hx.block _ hLR).trans hg
    have e2 := (hx.block _ hRP).trans hr.disk
    rw [hue, hgn, hkl, hsl]
    exact ⟨cell_of_row wx LR 0 _ _ _ e1, cell_of_row wx LR 1 _ _ _ e1, cell_of_row wx LR 3 _ _ _ e1, cell_of_row wx LR 4 _ _ _ e1, cell_of_row wx rb.P 0 _ _ _ e2, cell_of_row wx rb.P 1 _ _ _ e2⟩)
  have HUS := Lib.hid (fun (wx : World) (hx : Below w.heap.size w wx) => used_sy (h.keep hx))
  have HGN := Lib.hid (fun (wx : World) (hx : Below w.heap.size w wx) => gen_sy (h.keep hx))
  have HST := Lib.hid (fun (wx : World) (hx : Below w.heap.size w wx) => (by
    obtain ⟨a, e, h1, _⟩ := (h.keep hx).hd
    rw [← e]
    exact staged_any wx a d h1 : Calls Tryd.prog 23 #[.pointer (some ⟨P, 0, none⟩)] wx fun e w' => e = .returned (.int .i64 d.st.length) ∧ wx = w'))
  have HK := Lib.hid (fun (wx : World) (hx : Below w.heap.size w wx) => (by
    obtain ⟨q0, q1, q3, q4, q5, q6⟩ := HCR.out wx hx
    exact ⟨q0, q1, q3, q4, q5, q6, hx⟩ : wx.cell? ⟨LR, 0, none⟩ = some (.pointer (some ⟨rb.P, 0, none⟩)) ∧ wx.cell? ⟨LR, 1, none⟩ = some (.int .i64 (gn : Int)) ∧ wx.cell? ⟨LR, 3, none⟩ = some (.int .i64 (u : Int)) ∧ wx.cell? ⟨LR, 4, none⟩ = some (.slice A m c) ∧ wx.cell? ⟨rb.P, 0, none⟩ = some (.slice rb.K kl rb.cK) ∧ wx.cell? ⟨rb.P, 1, none⟩ = some (.slice rb.S sl rb.cS) ∧ Below w.heap.size w wx))
  rw [← hue] at HUS
  rw [← hgn] at HGN
  rw [← hsl] at HST
  rw [← hkl] at HSM
  clear hok hal hrec hbyk h hr ht hg hl hm hLR hRP hue hab hgn hkl hsl hH h2 hu
  have hbd : Below w.heap.size w w.drew := (Below.refl _ _).drew
  clear HG HM HL HRA HSY HCR
  go_enter Tryd.func24, Tryd.ntmps24
  go_upto_region 1 with fail
  dsimp only [List.append]
  go_region_held3 (fun wx => wx.cell? ⟨LR, 0, none⟩ = some (.pointer (some ⟨rb.P, 0, none⟩)) ∧ wx.cell? ⟨LR, 1, none⟩ = some (.int .i64 (gn : Int)) ∧ wx.cell? ⟨LR, 3, none⟩ = some (.int .i64 (u : Int)) ∧ wx.cell? ⟨LR, 4, none⟩ = some (.slice A m c) ∧ wx.cell? ⟨rb.P, 0, none⟩ = some (.slice rb.K kl rb.cK) ∧ wx.cell? ⟨rb.P, 1, none⟩ = some (.slice rb.S sl rb.cS) ∧ Below w.heap.size w wx)
    (first
      | exact HK.out _ hq3
      | exact HK.out _ hq2
      | exact HK.out _ hq1
      | exact HK.out _ hbd)
    (first
      | (go_at_call 33; refine (HREC.out _ hbd).mono ?_; rintro _ w1 ⟨A1, c1, m1, cs1, rfl, hlr1, hb1⟩; have hq1 := hbd.trans (hb1.mono hbd.size))
      | (go_at_call 36; refine (HLI.out _ _ _ _ _ _ hq1 hlr1).mono ?_; rintro _ w2 ⟨rfl, hb2⟩; have hq2 := hq1.trans (hb2.mono hq1.size))
      | (go_at_call 38; refine (HUS.out _ hq2).mono ?_; rintro _ w7 ⟨rfl, rfl⟩)
      | (go_at_call 57; refine (HRM.out _ hq2).mono ?_; rintro _ w8 ⟨rfl, rfl⟩)
      | (go_at_call 64; refine (HSZ.out _ hq2).mono ?_; rintro _ w9 ⟨rfl, rfl⟩)
      | (go_at_call 39; refine (HGN.out _ hq2).mono ?_; rintro _ w10 ⟨rfl, rfl⟩)
      | (go_at_call 31; refine (HBY.out _ hq2).mono ?_; rintro _ w3 ⟨A3, c3, base, rfl, hown3, hb3⟩; have hq3 := hq2.trans (hb3.mono hq2.size))
      | (go_at_call 30; refine (HSM.out _ _ _ _ hq3 hown3).mono ?_; rintro _ w11 ⟨rfl, rfl⟩)
      | (go_at_call 23; refine (HST.out _ hq3).mono ?_; rintro _ w12 ⟨rfl, rfl⟩))
  go_wp2_with fail
  go_ret
  exact ⟨rfl, hq3⟩
end Go.Proofs.YtkmljbbnpjlehaaDoor
