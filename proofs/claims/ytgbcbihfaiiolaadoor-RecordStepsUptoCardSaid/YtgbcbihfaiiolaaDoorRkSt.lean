/- The call RecordSteps answers true, for any record with a name and a parent of at most 2^30 bytes, any times and uses, any text more. -/
import Derived.Test.YtgbcbihfaiiolaaDoorRkG
namespace Go.Proofs.YtgbcbihfaiiolaaDoor
set_option maxRecDepth 8000
open Go.RowKit

set_option maxHeartbeats 3200000 in
theorem recordSteps_any (r : Rk.R) (made used uses : Int) (more : List UInt8) (hn : r.name.length ≤ 1073741824) (hp : r.parent.length ≤ 1073741824) (w : World) (hE : EnvT w) :
    Calls Tryd.prog 7 #[recV r, .int .i64 made, .int .i64 used, .int .i64 uses, .string (S more)] w (AwakePost w) := by
  have hF := fun w' => recFew_any r w'
  have hN := fun w' h => recEncode_any r hn hp w' h
  have hNs := fun w' h => recEncode_any ⟨r.kind, r.name, r.parent, r.user, r.service, r.url, made, used, uses, r.fresh⟩ hn hp w' h
  have hNt := fun w' h => recEncode_any ⟨r.kind, r.name, r.parent, r.user ++ more, r.service, r.url, r.made, r.used, r.uses, r.fresh⟩ hn hp w' h
  obtain ⟨y, e, hy, hc⟩ := encV_cases r
  obtain ⟨ys, es, hys, hcs⟩ := encV_cases ⟨r.kind, r.name, r.parent, r.user, r.service, r.url, made, used, uses, r.fresh⟩
  obtain ⟨yt, et, hyt, hct⟩ := encV_cases ⟨r.kind, r.name, r.parent, r.user ++ more, r.service, r.url, r.made, r.used, r.uses, r.fresh⟩
  rw [hy] at hN
  rw [hys] at hNs
  rw [hyt] at hNt
  have HPs : Hid (e = 0 → es = 0 → ys.length = y.length) := Lib.hid fun h1 h2 => by
    rcases hc with ⟨_, h4, _⟩ | ⟨_, _, h6⟩
    · rcases hcs with ⟨_, h8, _⟩ | ⟨_, _, h9⟩
      · rw [h4, h8, Rk.enc_len, Rk.enc_len]
      · omega
    · omega
  have HPt : Hid (e = 0 → (et = 0 ∧ r.user.length + more.length ≤ 32 ∧ yt.length = y.length + more.length) ∨ (et = 1 ∧ 32 < r.user.length + more.length)) := Lib.hid fun h1 => by
    rcases hc with ⟨h3, h4, _⟩ | ⟨_, _, h6⟩
    · have ho := (Rk.right_iff r).1 h3
      rcases hct with ⟨h7, h8, h9⟩ | ⟨h7, _, h9⟩
      · refine .inl ⟨h9, ?_, ?_⟩
        · have := ((Rk.right_iff _).1 h7).us
          simpa using this
        · rw [h4, h8, Rk.enc_len, Rk.enc_len]
          simp
          omega
      · refine .inr ⟨h9, ?_⟩
        rcases Nat.lt_or_ge 32 (r.user.length + more.length) with h | h
        · exact h
        · exfalso
          have : Rk.Ok ⟨r.kind, r.name, r.parent, r.user ++ more, r.service, r.url, r.made, r.used, r.uses, r.fresh⟩ := ⟨ho.nm, ho.kd, ho.pa, ho.cm, by simpa using h, ho.sv, ho.ur, ho.m0, ho.mu, ho.ut, ho.s0, ho.s1⟩
          rw [(Rk.right_iff _).2 this] at h7
          cases h7
    · omega
  have HYL : Hid (e = 0 → y.length ≤ 278) := Lib.hid fun h1 => by
    rcases hc with ⟨h3, h4, _⟩ | ⟨_, _, h6⟩
    · rw [h4]
      exact Rk.Ok.enc_le ((Rk.right_iff r).1 h3)
    · omega
  clear hy hc hys hcs hyt hct
  have HFW : Hid (Rk.few r = true → r.user.length ≤ 120) := Lib.hid fun h => (Rk.few_of h).us
  generalize Rk.few r = fw at hF HFW
  obtain ⟨w1, hw1⟩ : ∃ w1, w1 = w.alloc (.cells (recCs r) 23) := ⟨_, rfl⟩
  have s1 : w1.heap.size = w.heap.size + 1 := by rw [hw1]; simp
  have b1 : Below w.heap.size w w1 := by rw [hw1]; exact (Below.refl _ _).alloc (Nat.le_refl _) _
  have HK : Hid (∀ w', Below w1.heap.size w1 w' → RecAt w' w.heap.size r) := by
    rw [s1, hw1]
    exact recAt_alloc w r
  have hEz := hE.next b1
  have hA := awake13_any w1 hEz
  have HZ := Lib.hid b1
  obtain ⟨k, n, p, u, sv, l, m, d, x, f⟩ := r
  unfold recCs at hw1
  unfold recV at hF hN hNs hNt ⊢
  dsimp only at hw1 hF hN hNs hNt hn hp HPt HFW ⊢
  clear s1 b1
  go_enter Tryd.func7, Tryd.ntmps7
  go_upto_region 1 with fail
  rw [← hw1]
  clear hw1
  go_upto_region 4 with (first
    | (go_at_call 8; refine hA.mono ?_; rintro e w3 ⟨rfl, hq⟩; have hz := hq; have hEz3 := hEz.next hq; obtain ⟨c0, c1, c2, c3, c4, c5, c6, c7, c8, c9⟩ := HK.out _ hz; clear hA)
    | (go_at_call 9; refine (hF _).mono ?_; rintro e w4 ⟨rfl, hq⟩; have hz4 := hz.trans (hq.mono hz.size); have hEz4 := hEz3.next hq; clear c0 c1 c2 c3 c4 c5 c6 c7 c8 c9 hq hz hEz3 hF; obtain ⟨c0, c1, c2, c3, c4, c5, c6, c7, c8, c9⟩ := HK.out _ hz4)
    | (go_at_call 10; with_reducible refine (hN _ hEz4).mono ?_; rintro e w5 ⟨rfl, hq⟩; have hz5 := hz4.trans (hq.mono hz4.size); have hEz5 := hEz4.next hq; clear c0 c1 c2 c3 c4 c5 c6 c7 c8 c9 hq hz4 hEz4 hN; obtain ⟨c0, c1, c2, c3, c4, c5, c6, c7, c8, c9⟩ := HK.out _ hz5))
  have HZ5 := Lib.hid (HZ.out.trans (hz5.mono HZ.out.size))
  have HS5 := Lib.hid hz5
  clear hz5 hq
  have hms : ((S more).size : Int) = (more.length : Int) := rfl
  cases fw with
  | false =>
    go_wp2_with fail
    go_ret
    exact ⟨rfl, HZ5.out⟩
  | true =>
  by_cases he : e = 0
  case neg =>
    go_wp2_with fail
    go_ret
    exact ⟨rfl, HZ5.out⟩
  case pos =>
  by_cases hmo : more.length ≤ 60
  case neg =>
    have hmI : (60 : Int) < (more.length : Int) := by omega
    go_wp2_with fail
    go_ret
    exact ⟨rfl, HZ5.out⟩
  case pos =>
  have hmI : ¬ (60 : Int) < (more.length : Int) := by omega
  have hul := HFW.out rfl
  have HPS := Lib.hid (HPs.out he)
  have HPT := Lib.hid (HPt.out he)
  have hyl := HYL.out he
  clear HPs HPt HFW
  subst he
  -- s
  go_upto_region 7 with fail
  have hbs : Below w5.heap.size w5 (w5.alloc (.cells (recCs ⟨k, n, p, u, sv, l, m, d, x, f⟩) 23)) := (Below.refl _ _).alloc (Nat.le_refl _) _
  have hks := heap_alloc_new w5 (.cells (recCs ⟨k, n, p, u, sv, l, m, d, x, f⟩) 23)
  change Code.wp _ _ _ _ (w5.alloc (.cells (recCs ⟨k, n, p, u, sv, l, m, d, x, f⟩) 23))
  generalize w5.alloc (.cells (recCs ⟨k, n, p, u, sv, l, m, d, x, f⟩) 23) = ws at hbs hks ⊢
  have hgs : w5.heap.size < ws.heap.size := lt_of_blk hks
  obtain ⟨-, -, -, -, -, -, d6, d7, d8, -⟩ := recAt_blk hks
  have z6 : ws.frozen? ⟨w5.heap.size, 6, none⟩ = false := by simp [World.frozen?, hks]
  have z7 : ws.frozen? ⟨w5.heap.size, 7, none⟩ = false := by simp [World.frozen?, hks]
  have z8 : ws.frozen? ⟨w5.heap.size, 8, none⟩ = false := by simp [World.frozen?, hks]
  have HKS := Lib.hid (recCell_set (recCell_set (recCell_set hks 6 (.int .i64 made) ⟨k, n, p, u, sv, l, made, d, x, f⟩ rfl) 7 (.int .i64 used) ⟨k, n, p, u, sv, l, made, used, x, f⟩ rfl) 8 (.int .i64 uses) ⟨k, n, p, u, sv, l, made, used, uses, f⟩ rfl)
  have HGS := Lib.hid (grown_grown (grown_grown (setCell_grown ws w5.heap.size 6 (.int .i64 made)) (setCell_grown _ w5.heap.size 7 (.int .i64 used))) (setCell_grown _ w5.heap.size 8 (.int .i64 uses)))
  have HBS := Lib.hid hbs
  clear c0 c1 c2 c3 c4 c5 c6 c7 c8 c9 hks hbs
  go_upto_region 10 with fail
  have hb6 : Below w5.heap.size w5 (((ws.setCell ⟨w5.heap.size, 6, none⟩ (.int .i64 made)).setCell ⟨w5.heap.size, 7, none⟩ (.int .i64 used)).setCell ⟨w5.heap.size, 8, none⟩ (.int .i64 uses)) := HBS.out.grown HGS.out HBS.out.size (fun q hq => by cases hq; exact Nat.le_refl _)
  generalize ((ws.setCell ⟨w5.heap.size, 6, none⟩ (.int .i64 made)).setCell ⟨w5.heap.size, 7, none⟩ (.int .i64 used)).setCell ⟨w5.heap.size, 8, none⟩ (.int .i64 uses) = w6 at HKS hb6 ⊢
  obtain ⟨d0, d1, d2, d3, d4, d5, d6, d7, d8, d9⟩ := recAt_blk HKS.out
  have hE6 := hEz5.next hb6
  have HB6 := Lib.hid (HS5.out.trans (hb6.mono HS5.out.size))
  clear z6 z7 z8 HGS HBS hb6 hgs
  go_upto_region 11 with (go_at_call 10; refine (hNs _ hE6).mono ?_; rintro e w7 ⟨rfl, hq⟩; have hE7 := hE6.next hq; have hz7 := HB6.out.trans (hq.mono HB6.out.size); clear d0 d1 d2 d3 d4 d5 d6 d7 d8 d9 hq; obtain ⟨c0, c1, c2, c3, c4, c5, c6, c7, c8, c9⟩ := HK.out _ hz7)
  clear hNs HKS HB6 hE6
  go_upto_region 12 with fail
  have hbt : Below w7.heap.size w7 (w7.alloc (.cells (recCs ⟨k, n, p, u, sv, l, m, d, x, f⟩) 23)) := (Below.refl _ _).alloc (Nat.le_refl _) _
  have hkt := heap_alloc_new w7 (.cells (recCs ⟨k, n, p, u, sv, l, m, d, x, f⟩) 23)
  change Code.wp _ _ _ _ (w7.alloc (.cells (recCs ⟨k, n, p, u, sv, l, m, d, x, f⟩) 23))
  generalize w7.alloc (.cells (recCs ⟨k, n, p, u, sv, l, m, d, x, f⟩) 23) = wt at hbt hkt ⊢
  clear c0 c1 c2 c3 c4 c5 c6 c7 c8 c9
  have HBT := Lib.hid (hz7.trans (hbt.mono hz7.size))
  obtain ⟨-, -, -, c3, -, -, -, -, -, -⟩ := HK.out wt HBT.out
  obtain ⟨-, -, -, d3, -, -, -, -, -, -⟩ := recAt_blk hkt
  have z3 : wt.frozen? ⟨w7.heap.size, 3, none⟩ = false := by simp [World.frozen?, hkt]
  have HKT := Lib.hid (recCell_set hkt 3 (.string (S (u ++ more))) ⟨k, n, p, u ++ more, sv, l, m, d, x, f⟩ rfl)
  have HGT := Lib.hid (setCell_grown wt w7.heap.size 3 (.string (S (u ++ more))))
  have HT7 := Lib.hid hbt
  have hadd : ∀ w, (Op.stringOp .add (S u) (S more)).run Tryd.prog w = .ok (.string (S (u ++ more))) w := fun w => run_add_S w u more (by omega)
  clear hkt hbt
  go_upto_region 13 with fail
  have hb8 : Below w7.heap.size w7 (wt.setCell ⟨w7.heap.size, 3, none⟩ (.string (S (u ++ more)))) := HT7.out.grown HGT.out HT7.out.size (fun q hq => by cases hq; exact Nat.le_refl _)
  generalize wt.setCell ⟨w7.heap.size, 3, none⟩ (.string (S (u ++ more))) = w8 at HKT hb8 ⊢
  obtain ⟨d0, d1, d2, d3, d4, d5, d6, d7, d8, d9⟩ := recAt_blk HKT.out
  have hE8 := hE7.next hb8
  have hz8 := hz7.trans (hb8.mono hz7.size)
  clear z3 HGT HT7 hb8 c3 hadd
  go_upto_region 14 with (go_at_call 10; refine (hNt _ hE8).mono ?_; rintro e w9 ⟨rfl, hq⟩; have hz9 := hz8.trans (hq.mono hz8.size); have HK9 := Lib.hid (recAt_blk ((hq.block _ (lt_of_blk HKT.out)).trans HKT.out)); clear d0 d1 d2 d3 d4 d5 d6 d7 d8 d9 hq)
  have HZ9 := Lib.hid (HZ.out.trans (hz9.mono HZ.out.size))
  obtain ⟨-, -, -, d3, -, -, -, -, -, -⟩ := HK9.out
  have hs0 : ((S y).size : Int) = (y.length : Int) := rfl
  have hs1 : ((S ys).size : Int) = (ys.length : Int) := rfl
  have hs2 : ((S yt).size : Int) = (yt.length : Int) := rfl
  have hs3 : ((S (u ++ more)).size : Int) = ((u.length + more.length : Nat) : Int) := by show (((u ++ more).length : Nat) : Int) = _; rw [List.length_append]
  clear hz8 hz9 hE7 hE8 HKT HBT hz7
  have hys : es ≠ 0 ∨ (es = 0 ∧ ys.length = y.length) := by
    by_cases h : es = 0
    · exact .inr ⟨h, HPS.out h⟩
    · exact .inl h
  obtain ⟨N, hN⟩ : ∃ N, N = u.length + more.length := ⟨_, rfl⟩
  have HPT2 := HPT.out
  rw [← hN] at hs3 HPT2
  rcases HPT2 with ⟨rfl, h32, hlt⟩ | ⟨rfl, h32⟩ <;> rcases hys with h | ⟨rfl, h⟩ <;>
    (go_wp2_with fail
     all_goals
       go_ret
       exact ⟨ret_bool (by first | rfl | (simp; done) | (simp; omega)), HZ9.out⟩)
end Go.Proofs.YtgbcbihfaiiolaaDoor
