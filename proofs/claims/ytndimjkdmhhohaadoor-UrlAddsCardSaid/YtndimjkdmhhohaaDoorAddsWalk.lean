/- What the statement UrlAdds does at any three texts: it answers true and turns nothing that was there, where the variables that it reaches read as their texts lay them. -/
import Derived.Test.YtndimjkdmhhohaaDoorAddsPure
import Derived.Test.YtndimjkdmhhohaaDoorPairsApp
namespace Go.Proofs.YtndimjkdmhhohaaDoor
set_option maxRecDepth 8000
open Go.RowKit

theorem add_to (u : Url.U) (n v : List UInt8) (w : World) (hd : Digs w) (hu : Few u) (hn : n.length ≤ 1000) (hv : v.length ≤ 1000) :
    Calls Tryd.prog 18 #[.agg #[.string (S u.scheme), .string (S u.host), .int .i64 (u.port : Int), .string (S u.path), .string (S u.query), .bool u.ask], .string (S n), .string (S v)] w fun e w' => e = .returned (.agg #[.string (S (addU u n v).scheme), .string (S (addU u n v).host), .int .i64 ((addU u n v).port : Int), .string (S (addU u n v).path), .string (S (addU u n v).query), .bool (addU u n v).ask]) ∧ Below w.heap.size w w' :=
  add_url u n v w hd hu hn hv
theorem string_to (u : Url.U) (w : World) (he : Env w) (hu : Few u) :
    Calls Tryd.prog 14 #[.agg #[.string (S u.scheme), .string (S u.host), .int .i64 (u.port : Int), .string (S u.path), .string (S u.query), .bool u.ask]] w fun e w' => e = .returned (.string (S (Url.str u))) ∧ Below w.heap.size w w' :=
  string_any u w he hu
theorem origin_to (u : Url.U) (w : World) (he : Env w) (hu : Few u) :
    Calls Tryd.prog 16 #[.agg #[.string (S u.scheme), .string (S u.host), .int .i64 (u.port : Int), .string (S u.path), .string (S u.query), .bool u.ask]] w fun e w' => e = .returned (.string (S (Url.origin u))) ∧ Below w.heap.size w w' :=
  origin_any u w he hu
theorem pairs_ok (u : Url.U) (x : List Pct.PairL) (w : World) (hd : Digs w) (hs : u.query.length ≤ 1073741824) (hf : Pct.form u.query = .ok x) :
    Calls Tryd.prog 23 #[.agg #[.string (S u.scheme), .string (S u.host), .int .i64 (u.port : Int), .string (S u.path), .string (S u.query), .bool u.ask]] w fun e w' => ∃ A cap, e = .returned (.tuple #[.slice A x.length cap, .int .i64 0]) ∧ PReads w' w'.heap.size (.slice A x.length cap) x ∧ Below w.heap.size w w' := by
  have := pairs_url u w hd hs
  rw [hf] at this
  refine this.mono fun e w' ⟨v, he, hr, hb⟩ => ?_
  obtain ⟨A, cap, rfl⟩ := hr.form
  exact ⟨A, cap, he, hr.reads, hb⟩
theorem pairs_err (u : Url.U) (m : Nat) (w : World) (hd : Digs w) (hs : u.query.length ≤ 1073741824) (hf : Pct.form u.query = .error m) :
    Calls Tryd.prog 23 #[.agg #[.string (S u.scheme), .string (S u.host), .int .i64 (u.port : Int), .string (S u.path), .string (S u.query), .bool u.ask]] w fun e w' => e = .returned (.tuple #[.slice none 0 0, .int .i64 (m : Int)]) ∧ Below w.heap.size w w' := by
  have := pairs_url u w hd hs
  rw [hf] at this
  exact this

theorem prow_alloc {b : Nat} {w : World} {v : Value} {l : List Pct.PairL} (h : PRow b w v l) (o : Obj) : PRow b (w.alloc o) v l := World.ownsRow.alloc h o
theorem pair_reads (w9 : World) (n v : List UInt8) : PReads (w9.alloc (.cells #[.string (S n), .string (S v)] 41)) (w9.heap.size + 1) (.slice (some ⟨w9.heap.size, 0, none⟩) 1 1) [(n, v)] := by
  refine ⟨_, 1, rfl, fun _ => ⟨w9.heap.size, 0, rfl, by omega, fun k hk => ?_⟩⟩
  have hc := fun i => cell_of_row _ w9.heap.size i _ _ _ (heap_alloc_new w9 (.cells #[.string (S n), .string (S v)] 41))
  match k, hk with
  | 0, _ => exact ⟨hc 0, hc 1⟩
theorem pairs_yes (x y z : List Pct.PairL) (h : z = x ++ y) : decide (z = [] ++ x ++ y) = true := by simp [h]

set_option maxHeartbeats 3200000 in
theorem urlAdds_ok (l n v : List UInt8) (u : Url.U) (w : World) (he : Env w) (h1 : l.length ≤ 200) (h2 : n.length ≤ 100) (h3 : v.length ≤ 100) (hu : Url.parse l = .ok u) :
    Calls Tryd.prog 7 #[.string (S l), .string (S n), .string (S v)] w (AwakePost w) := by
  have hS := S_list
  have hzl : (S l).size = l.length := rfl
  have hzn : (S n).size = n.length := rfl
  have hzv : (S v).size = v.length := rfl
  have gu := parse_good hu
  have HU := Lib.hid hu
  have hfu := gu.few
  have hql := gu.query
  have hfv := few_add n v hfu (by omega) (by omega) (by omega)
  have HPV := Lib.hid (parse_add n v gu h1 h2 h3)
  have HFQ := Lib.hid (form_addQ u.query n v)
  have HADD := Lib.hid (fun w' hd => add_to u n v w' hd hfu (by omega) (by omega))
  have HOR := Lib.hid (origin_add u n v)
  have HQV := Lib.hid (show (addU u n v).query = addQ u.query n v from rfl)
  have hvl := addQ_len u.query n v
  rw [← HQV.out] at hvl HFQ
  clear hu gu
  generalize addU u n v = z at hfv HPV HFQ HADD HOR HQV hvl
  clear HQV
  go_enter Tryd.func7, Tryd.ntmps7
  go_wp2_with fail
  refine (awake_url w he).mono ?_
  rintro e w1 ⟨rfl, hb1⟩
  have he1 := he.next hb1
  go_wp2_with fail
  refine (parse_ok' l u w1 he1 HU.out).mono ?_
  rintro e w2 ⟨rfl, hb2⟩
  have bu2 := blk_new w2 u
  have hb2' := (below_next hb1 hb2).alloc (below_next hb1 hb2).size (uObj u)
  have he2 := he.next hb2'
  clear hb1 hb2 he1
  go_wp2_with fail
  refine (HADD.out _ he2.digs).mono ?_
  rintro e w3 ⟨rfl, hb3⟩
  have bu3 := (bu2.past hb3).more (uObj z)
  have bz3 := blk_new w3 z
  have hb3' := (below_next hb2' hb3).alloc (below_next hb2' hb3).size (uObj z)
  have he3 := he.next hb3'
  clear hb2' hb3 he2 bu2
  go_wp2_with fail
  refine (string_to z _ he3 hfv).mono ?_
  rintro e w4 ⟨rfl, hb4⟩
  have bu4 := bu3.past hb4
  have bz4 := bz3.past hb4
  have hb4' := below_next hb3' hb4
  have he4 := he.next hb4'
  clear hb3' hb4 he3 bu3 bz3
  go_wp2_with fail
  refine (parse_ok' (Url.str z) z _ he4 HPV.out).mono ?_
  rintro e w5 ⟨rfl, hb5⟩
  have bu5' := bu4.past hb5
  have bz5' := bz4.past hb5
  have bu5 := bu5'.more (uObj z)
  have bz5 := bz5'.more (uObj z)
  have bw5 := blk_new w5 z
  have hb5' := (below_next hb4' hb5).alloc (below_next hb4' hb5).size (uObj z)
  have he5 := he.next hb5'
  clear hb4' hb5 he4 bu4 bz4
  have s5u : ∀ o, (w5.alloc o).cell? ⟨w2.heap.size, 0, none⟩ = some (.string (S u.scheme)) := fun o => (bu5'.more o).c0
  have t5u : ∀ o, (w5.alloc o).cell? ⟨w2.heap.size, 1, none⟩ = some (.string (S u.host)) := fun o => (bu5'.more o).c1
  have p5u : ∀ o, (w5.alloc o).cell? ⟨w2.heap.size, 2, none⟩ = some (.int .i64 (u.port : Int)) := fun o => (bu5'.more o).c2
  have q5u : ∀ o, (w5.alloc o).cell? ⟨w2.heap.size, 3, none⟩ = some (.string (S u.path)) := fun o => (bu5'.more o).c3
  have r5u : ∀ o, (w5.alloc o).cell? ⟨w2.heap.size, 4, none⟩ = some (.string (S u.query)) := fun o => (bu5'.more o).c4
  have v5u : ∀ o, (w5.alloc o).cell? ⟨w2.heap.size, 5, none⟩ = some (.bool u.ask) := fun o => (bu5'.more o).c5
  go_wp2_with fail
  clear s5u t5u p5u q5u r5u v5u bu5' bz5'
  cases hfq : Pct.form u.query with
  | error m =>
    have HQ := Lib.hid (show Pct.form z.query = .error m by rw [HFQ.out, hfq])
    have hm0 : ((m : Int) != 0) = true := by rcases form_errs _ _ _ hfq with h | h <;> subst h <;> rfl
    refine (pairs_err u m _ he5.digs (by omega) hfq).mono ?_
    rintro e w6 ⟨rfl, hb6⟩
    clear hfq HFQ
    have bu6 := bu5.past hb6
    have bz6 := bz5.past hb6
    have bw6 := bw5.past hb6
    have hb6' := below_next hb5' hb6
    have he6 := he.next hb6'
    clear hb5' he5 bu5 bz5 bw5
    obtain ⟨a0, a1, a2, a3, a4, a5⟩ := bz6.six
    go_wp2_with fail
    clear a0 a1 a2 a3 a4 a5
    refine (pairs_err z m _ he6.digs (by omega) HQ.out).mono ?_
    rintro e w7 ⟨rfl, hb7⟩
    have bu7 := bu6.past hb7
    have bz7 := bz6.past hb7
    have bw7 := bw6.past hb7
    have hb7' := below_next hb6' hb7
    have he7 := he.next hb7'
    clear hb6' he6 bu6 bz6 bw6
    clear hb6 hb7
    have q1 : ∀ w' : World, (binOp .neq 24 (.agg #[.string (S z.scheme), .string (S z.host), .int .i64 (z.port : Int), .string (S z.path), .string (S z.query), .bool z.ask]) (.agg #[.string (S z.scheme), .string (S z.host), .int .i64 (z.port : Int), .string (S z.path), .string (S z.query), .bool z.ask])).run Tryd.prog w' = .ok (.bool false) w' := fun w' => by
      have := run_ne_url w' z z
      rw [uEq_self] at this
      exact this
    have hgd := Tryd.guardU
    have lw2 := below_lt bu7
    have lw3 := below_lt bz7
    have lw5 := below_lt bw7
    obtain ⟨a0, a1, a2, a3, a4, a5⟩ := bu7.six
    obtain ⟨b0, b1, b2, b3, b4, b5⟩ := bz7.six
    obtain ⟨c0, c1, c2, c3, c4, c5⟩ := bw7.six
    clear bu7 bz7 bw7
    have hor := HOR.out
    go_wp2_with fail
    go_region_held3 (fun w' => w'.cell? ⟨w2.heap.size, 0, none⟩ = some (.string (S u.scheme)) ∧ w'.cell? ⟨w2.heap.size, 1, none⟩ = some (.string (S u.host)) ∧ w'.cell? ⟨w2.heap.size, 2, none⟩ = some (.int .i64 (u.port : Int)) ∧ w'.cell? ⟨w2.heap.size, 3, none⟩ = some (.string (S u.path)) ∧ w'.cell? ⟨w2.heap.size, 4, none⟩ = some (.string (S u.query)) ∧ w'.cell? ⟨w2.heap.size, 5, none⟩ = some (.bool u.ask) ∧ w'.cell? ⟨w3.heap.size, 0, none⟩ = some (.string (S z.scheme)) ∧ w'.cell? ⟨w3.heap.size, 1, none⟩ = some (.string (S z.host)) ∧ w'.cell? ⟨w3.heap.size, 2, none⟩ = some (.int .i64 (z.port : Int)) ∧ w'.cell? ⟨w3.heap.size, 3, none⟩ = some (.string (S z.path)) ∧ w'.cell? ⟨w3.heap.size, 4, none⟩ = some (.string (S z.query)) ∧ w'.cell? ⟨w3.heap.size, 5, none⟩ = some (.bool z.ask) ∧ w'.cell? ⟨w5.heap.size, 0, none⟩ = some (.string (S z.scheme)) ∧ w'.cell? ⟨w5.heap.size, 1, none⟩ = some (.string (S z.host)) ∧ w'.cell? ⟨w5.heap.size, 2, none⟩ = some (.int .i64 (z.port : Int)) ∧ w'.cell? ⟨w5.heap.size, 3, none⟩ = some (.string (S z.path)) ∧ w'.cell? ⟨w5.heap.size, 4, none⟩ = some (.string (S z.query)) ∧ w'.cell? ⟨w5.heap.size, 5, none⟩ = some (.bool z.ask) ∧ Below w7.heap.size w7 w')
      (first
        | exact ⟨a0, a1, a2, a3, a4, a5, b0, b1, b2, b3, b4, b5, c0, c1, c2, c3, c4, c5, (Below.refl _ _).drew⟩
        | (go_split_ands
           have hB := below_next ‹Below w7.heap.size w7 _› hb
           exact ⟨(hB.cell (p := ⟨w2.heap.size, 0, none⟩) lw2).trans a0, (hB.cell (p := ⟨w2.heap.size, 1, none⟩) lw2).trans a1, (hB.cell (p := ⟨w2.heap.size, 2, none⟩) lw2).trans a2, (hB.cell (p := ⟨w2.heap.size, 3, none⟩) lw2).trans a3, (hB.cell (p := ⟨w2.heap.size, 4, none⟩) lw2).trans a4, (hB.cell (p := ⟨w2.heap.size, 5, none⟩) lw2).trans a5, (hB.cell (p := ⟨w3.heap.size, 0, none⟩) lw3).trans b0, (hB.cell (p := ⟨w3.heap.size, 1, none⟩) lw3).trans b1, (hB.cell (p := ⟨w3.heap.size, 2, none⟩) lw3).trans b2, (hB.cell (p := ⟨w3.heap.size, 3, none⟩) lw3).trans b3, (hB.cell (p := ⟨w3.heap.size, 4, none⟩) lw3).trans b4, (hB.cell (p := ⟨w3.heap.size, 5, none⟩) lw3).trans b5, (hB.cell (p := ⟨w5.heap.size, 0, none⟩) lw5).trans c0, (hB.cell (p := ⟨w5.heap.size, 1, none⟩) lw5).trans c1, (hB.cell (p := ⟨w5.heap.size, 2, none⟩) lw5).trans c2, (hB.cell (p := ⟨w5.heap.size, 3, none⟩) lw5).trans c3, (hB.cell (p := ⟨w5.heap.size, 4, none⟩) lw5).trans c4, (hB.cell (p := ⟨w5.heap.size, 5, none⟩) lw5).trans c5, hB⟩))
      (first | (go_at_call 16; go_split_ands; refine (origin_to _ _ (he7.next ‹Below w7.heap.size w7 _›) (by assumption)).mono ?_; rintro e w' ⟨rfl, hb⟩))
    rename_i hH
    have hB8 := hH.2.2.2.2.2.2.2.2.2.2.2.2.2.2.2.2.2.2
    clear hH hb a0 a1 a2 a3 a4 a5 b0 b1 b2 b3 b4 b5 c0 c1 c2 c3 c4 c5
    go_wp2
    go_ret
    exact ⟨rfl, below_next hb7' hB8⟩
  | ok x =>
    have hx32 : x.length ≤ 32 := Pct.formGo_len _ [] x (by simp) hfq
    refine (pairs_ok u x _ he5.digs (by omega) hfq).mono ?_
    rintro e w6 ⟨A, cap, rfl, px, hb6⟩
    by_cases hx : x.length = 32
    · have HQ := Lib.hid (show Pct.form z.query = .error 5 by rw [HFQ.out, hfq]; simp only; rw [if_pos hx])
      have hxi : ((x.length : Int) == 32) = true := by rw [hx]; rfl
      clear hfq HFQ px
      have bu6 := bu5.past hb6
      have bz6 := bz5.past hb6
      have bw6 := bw5.past hb6
      have hb6' := below_next hb5' hb6
      have he6 := he.next hb6'
      clear hb5' he5 bu5 bz5 bw5
      obtain ⟨a0, a1, a2, a3, a4, a5⟩ := bz6.six
      go_wp2_with fail
      clear a0 a1 a2 a3 a4 a5
      refine (pairs_err z 5 _ he6.digs (by omega) HQ.out).mono ?_
      rintro e w7 ⟨rfl, hb7⟩
      have bu7 := bu6.past hb7
      have bz7 := bz6.past hb7
      have bw7 := bw6.past hb7
      have hb7' := below_next hb6' hb7
      have he7 := he.next hb7'
      clear hb6' he6 bu6 bz6 bw6
      clear hb6 hb7
      have q1 : ∀ w' : World, (binOp .neq 24 (.agg #[.string (S z.scheme), .string (S z.host), .int .i64 (z.port : Int), .string (S z.path), .string (S z.query), .bool z.ask]) (.agg #[.string (S z.scheme), .string (S z.host), .int .i64 (z.port : Int), .string (S z.path), .string (S z.query), .bool z.ask])).run Tryd.prog w' = .ok (.bool false) w' := fun w' => by
        have := run_ne_url w' z z
        rw [uEq_self] at this
        exact this
      have hgd := Tryd.guardU
      have lw2 := below_lt bu7
      have lw3 := below_lt bz7
      have lw5 := below_lt bw7
      obtain ⟨a0, a1, a2, a3, a4, a5⟩ := bu7.six
      obtain ⟨b0, b1, b2, b3, b4, b5⟩ := bz7.six
      obtain ⟨c0, c1, c2, c3, c4, c5⟩ := bw7.six
      clear bu7 bz7 bw7
      have hor := HOR.out
      go_wp2_with fail
      go_region_held3 (fun w' => w'.cell? ⟨w2.heap.size, 0, none⟩ = some (.string (S u.scheme)) ∧ w'.cell? ⟨w2.heap.size, 1, none⟩ = some (.string (S u.host)) ∧ w'.cell? ⟨w2.heap.size, 2, none⟩ = some (.int .i64 (u.port : Int)) ∧ w'.cell? ⟨w2.heap.size, 3, none⟩ = some (.string (S u.path)) ∧ w'.cell? ⟨w2.heap.size, 4, none⟩ = some (.string (S u.query)) ∧ w'.cell? ⟨w2.heap.size, 5, none⟩ = some (.bool u.ask) ∧ w'.cell? ⟨w3.heap.size, 0, none⟩ = some (.string (S z.scheme)) ∧ w'.cell? ⟨w3.heap.size, 1, none⟩ = some (.string (S z.host)) ∧ w'.cell? ⟨w3.heap.size, 2, none⟩ = some (.int .i64 (z.port : Int)) ∧ w'.cell? ⟨w3.heap.size, 3, none⟩ = some (.string (S z.path)) ∧ w'.cell? ⟨w3.heap.size, 4, none⟩ = some (.string (S z.query)) ∧ w'.cell? ⟨w3.heap.size, 5, none⟩ = some (.bool z.ask) ∧ w'.cell? ⟨w5.heap.size, 0, none⟩ = some (.string (S z.scheme)) ∧ w'.cell? ⟨w5.heap.size, 1, none⟩ = some (.string (S z.host)) ∧ w'.cell? ⟨w5.heap.size, 2, none⟩ = some (.int .i64 (z.port : Int)) ∧ w'.cell? ⟨w5.heap.size, 3, none⟩ = some (.string (S z.path)) ∧ w'.cell? ⟨w5.heap.size, 4, none⟩ = some (.string (S z.query)) ∧ w'.cell? ⟨w5.heap.size, 5, none⟩ = some (.bool z.ask) ∧ Below w7.heap.size w7 w')
        (first
          | exact ⟨a0, a1, a2, a3, a4, a5, b0, b1, b2, b3, b4, b5, c0, c1, c2, c3, c4, c5, (Below.refl _ _).drew⟩
          | (go_split_ands
             have hB := below_next ‹Below w7.heap.size w7 _› hb
             exact ⟨(hB.cell (p := ⟨w2.heap.size, 0, none⟩) lw2).trans a0, (hB.cell (p := ⟨w2.heap.size, 1, none⟩) lw2).trans a1, (hB.cell (p := ⟨w2.heap.size, 2, none⟩) lw2).trans a2, (hB.cell (p := ⟨w2.heap.size, 3, none⟩) lw2).trans a3, (hB.cell (p := ⟨w2.heap.size, 4, none⟩) lw2).trans a4, (hB.cell (p := ⟨w2.heap.size, 5, none⟩) lw2).trans a5, (hB.cell (p := ⟨w3.heap.size, 0, none⟩) lw3).trans b0, (hB.cell (p := ⟨w3.heap.size, 1, none⟩) lw3).trans b1, (hB.cell (p := ⟨w3.heap.size, 2, none⟩) lw3).trans b2, (hB.cell (p := ⟨w3.heap.size, 3, none⟩) lw3).trans b3, (hB.cell (p := ⟨w3.heap.size, 4, none⟩) lw3).trans b4, (hB.cell (p := ⟨w3.heap.size, 5, none⟩) lw3).trans b5, (hB.cell (p := ⟨w5.heap.size, 0, none⟩) lw5).trans c0, (hB.cell (p := ⟨w5.heap.size, 1, none⟩) lw5).trans c1, (hB.cell (p := ⟨w5.heap.size, 2, none⟩) lw5).trans c2, (hB.cell (p := ⟨w5.heap.size, 3, none⟩) lw5).trans c3, (hB.cell (p := ⟨w5.heap.size, 4, none⟩) lw5).trans c4, (hB.cell (p := ⟨w5.heap.size, 5, none⟩) lw5).trans c5, hB⟩))
        (first | (go_at_call 16; go_split_ands; refine (origin_to _ _ (he7.next ‹Below w7.heap.size w7 _›) (by assumption)).mono ?_; rintro e w' ⟨rfl, hb⟩))
      rename_i hH
      have hB8 := hH.2.2.2.2.2.2.2.2.2.2.2.2.2.2.2.2.2.2
      clear hH hb a0 a1 a2 a3 a4 a5 b0 b1 b2 b3 b4 b5 c0 c1 c2 c3 c4 c5
      go_wp2
      go_ret
      exact ⟨rfl, below_next hb7' hB8⟩
    · have HQ := Lib.hid (show Pct.form z.query = .ok (x ++ [(n, v)]) by rw [HFQ.out, hfq]; simp only; rw [if_neg hx])
      have hxi : ((x.length : Int) == 32) = false := beq_eq_false_iff_ne.2 (by omega)
      clear hfq HFQ
      obtain ⟨y, hy⟩ : ∃ y, y = x ++ [(n, v)] := ⟨_, rfl⟩
      rw [← hy] at HQ
      have hyl : y.length ≤ 33 := by rw [hy]; simp; omega
      have HY := Lib.hid hy
      clear hy
      have bu6 := bu5.past hb6
      have bz6 := bz5.past hb6
      have bw6 := bw5.past hb6
      have hb6' := below_next hb5' hb6
      have he6 := he.next hb6'
      clear hb5' he5 bu5 bz5 bw5
      obtain ⟨a0, a1, a2, a3, a4, a5⟩ := bz6.six
      go_wp2_with fail
      clear a0 a1 a2 a3 a4 a5
      refine (pairs_ok z y _ he6.digs (by omega) HQ.out).mono ?_
      rintro e w7 ⟨A7, cap7, rfl, py, hb7⟩
      have px7 : PReads w7 w7.heap.size (.slice A x.length cap) x := (px.below hb7).more hb7.size
      have bu7 := bu6.past hb7
      have bz7 := bz6.past hb7
      have bw7 := bw6.past hb7
      have hb7' := below_next hb6' hb7
      have he7 := he.next hb7'
      clear hb6' he6 bu6 bz6 bw6
      clear hb6 hb7 px
      have q1 : ∀ w' : World, (binOp .neq 24 (.agg #[.string (S z.scheme), .string (S z.host), .int .i64 (z.port : Int), .string (S z.path), .string (S z.query), .bool z.ask]) (.agg #[.string (S z.scheme), .string (S z.host), .int .i64 (z.port : Int), .string (S z.path), .string (S z.query), .bool z.ask])).run Tryd.prog w' = .ok (.bool false) w' := fun w' => by
        have := run_ne_url w' z z
        rw [uEq_self] at this
        exact this
      have hgd := Tryd.guardU
      have lw2 := below_lt bu7
      have lw3 := below_lt bz7
      have lw5 := below_lt bw7
      obtain ⟨a0, a1, a2, a3, a4, a5⟩ := bu7.six
      obtain ⟨b0, b1, b2, b3, b4, b5⟩ := bz7.six
      obtain ⟨c0, c1, c2, c3, c4, c5⟩ := bw7.six
      clear bu7 bz7 bw7
      have hor := HOR.out
      go_wp2_with fail
      go_region_held3 (fun w' => w'.cell? ⟨w2.heap.size, 0, none⟩ = some (.string (S u.scheme)) ∧ w'.cell? ⟨w2.heap.size, 1, none⟩ = some (.string (S u.host)) ∧ w'.cell? ⟨w2.heap.size, 2, none⟩ = some (.int .i64 (u.port : Int)) ∧ w'.cell? ⟨w2.heap.size, 3, none⟩ = some (.string (S u.path)) ∧ w'.cell? ⟨w2.heap.size, 4, none⟩ = some (.string (S u.query)) ∧ w'.cell? ⟨w2.heap.size, 5, none⟩ = some (.bool u.ask) ∧ w'.cell? ⟨w3.heap.size, 0, none⟩ = some (.string (S z.scheme)) ∧ w'.cell? ⟨w3.heap.size, 1, none⟩ = some (.string (S z.host)) ∧ w'.cell? ⟨w3.heap.size, 2, none⟩ = some (.int .i64 (z.port : Int)) ∧ w'.cell? ⟨w3.heap.size, 3, none⟩ = some (.string (S z.path)) ∧ w'.cell? ⟨w3.heap.size, 4, none⟩ = some (.string (S z.query)) ∧ w'.cell? ⟨w3.heap.size, 5, none⟩ = some (.bool z.ask) ∧ w'.cell? ⟨w5.heap.size, 0, none⟩ = some (.string (S z.scheme)) ∧ w'.cell? ⟨w5.heap.size, 1, none⟩ = some (.string (S z.host)) ∧ w'.cell? ⟨w5.heap.size, 2, none⟩ = some (.int .i64 (z.port : Int)) ∧ w'.cell? ⟨w5.heap.size, 3, none⟩ = some (.string (S z.path)) ∧ w'.cell? ⟨w5.heap.size, 4, none⟩ = some (.string (S z.query)) ∧ w'.cell? ⟨w5.heap.size, 5, none⟩ = some (.bool z.ask) ∧ Below w7.heap.size w7 w')
        (first
          | exact ⟨a0, a1, a2, a3, a4, a5, b0, b1, b2, b3, b4, b5, c0, c1, c2, c3, c4, c5, (Below.refl _ _).drew⟩
          | (go_split_ands
             have hB := below_next ‹Below w7.heap.size w7 _› hb
             exact ⟨(hB.cell (p := ⟨w2.heap.size, 0, none⟩) lw2).trans a0, (hB.cell (p := ⟨w2.heap.size, 1, none⟩) lw2).trans a1, (hB.cell (p := ⟨w2.heap.size, 2, none⟩) lw2).trans a2, (hB.cell (p := ⟨w2.heap.size, 3, none⟩) lw2).trans a3, (hB.cell (p := ⟨w2.heap.size, 4, none⟩) lw2).trans a4, (hB.cell (p := ⟨w2.heap.size, 5, none⟩) lw2).trans a5, (hB.cell (p := ⟨w3.heap.size, 0, none⟩) lw3).trans b0, (hB.cell (p := ⟨w3.heap.size, 1, none⟩) lw3).trans b1, (hB.cell (p := ⟨w3.heap.size, 2, none⟩) lw3).trans b2, (hB.cell (p := ⟨w3.heap.size, 3, none⟩) lw3).trans b3, (hB.cell (p := ⟨w3.heap.size, 4, none⟩) lw3).trans b4, (hB.cell (p := ⟨w3.heap.size, 5, none⟩) lw3).trans b5, (hB.cell (p := ⟨w5.heap.size, 0, none⟩) lw5).trans c0, (hB.cell (p := ⟨w5.heap.size, 1, none⟩) lw5).trans c1, (hB.cell (p := ⟨w5.heap.size, 2, none⟩) lw5).trans c2, (hB.cell (p := ⟨w5.heap.size, 3, none⟩) lw5).trans c3, (hB.cell (p := ⟨w5.heap.size, 4, none⟩) lw5).trans c4, (hB.cell (p := ⟨w5.heap.size, 5, none⟩) lw5).trans c5, hB⟩))
        (first | (go_at_call 16; go_split_ands; refine (origin_to _ _ (he7.next ‹Below w7.heap.size w7 _›) (by assumption)).mono ?_; rintro e w' ⟨rfl, hb⟩))
      rename_i hH
      have hB8 := hH.2.2.2.2.2.2.2.2.2.2.2.2.2.2.2.2.2.2
      clear hH hb a0 a1 a2 a3 a4 a5 b0 b1 b2 b3 b4 b5 c0 c1 c2 c3 c4 c5
      have px8 := (px7.below hB8).more hB8.size
      have py8 := (py.below hB8).more hB8.size
      have hb8' := below_next hb7' hB8
      clear px7 py hB8 hb7'
      obtain ⟨w8, hw8⟩ : ∃ w8, w' = w8 := ⟨_, rfl⟩
      rw [hw8] at px8 py8 hb8' ⊢
      clear hw8
      have hown0 : PRow w8.heap.size (w8.alloc (.cells #[] 41)) (.slice (some ⟨w8.heap.size, 0, none⟩) 0 0) [] :=
        ⟨rfl, .inr ⟨w8.heap.size, 0, #[], rfl, Nat.le_refl _, heap_alloc_new w8 _, Nat.le_refl _, Nat.zero_le _, rfl, rfl⟩⟩
      have hbA : Below w8.heap.size w8 (w8.alloc (.cells #[] 41)) := (Below.refl _ _).alloc (Nat.le_refl _) _
      have tok1 : True := trivial
      have tok2 : True := trivial
      go_wp2_with (first
        | (at_builtin; have _t := tok1; refine wpList_append_pairs ?hw1 (.tmp 98) (.tmp 99) rfl w8.heap.size w8.heap.size (.slice (some ⟨w8.heap.size, 0, none⟩) 0 0) (.slice A x.length cap) [] x rfl rfl hown0 (px8.below hbA) (by simp; omega) (by simp) ?_; rotate_right; intro v9 w9 hown9 hgrow9; have hb9 : Below w8.heap.size w8 w9 := hbA.grown hgrow9 (by simp) (fun k hk => (World.ownsRow.lt hown0 k hk).1); clear tok1 hgrow9)
        | (at_builtin; have _t := tok2; have _h := hown9; refine wpList_append_pairs ?hw2 (.tmp 100) (.tmp 104) rfl w8.heap.size (w9.heap.size + 1) v9 (.slice (some ⟨w9.heap.size, 0, none⟩) 1 1) ([] ++ x) [(n, v)] rfl rfl (prow_alloc hown9 _) (pair_reads w9 n v) (by simp; omega) (Nat.le_trans hb9.size (by simp)) ?_; rotate_right; intro v10 w10 hown10 hgrow10; have hb10 : Below w8.heap.size w8 w10 := (hb9.alloc hb9.size _).grown hgrow10 (Nat.le_trans hb9.size (by simp)) (fun k hk => (World.ownsRow.lt hown9 k hk).1); clear tok2 hgrow10)
        | (go_at_call 24; refine (pairs_any _ v10 y (([] ++ x) ++ [(n, v)]) w10 ((py8.below hb10).more hb10.size) hown10.reads (by omega)).mono ?_; rintro e w11 ⟨rfl, n11, rfl⟩; rw [pairs_yes x [(n, v)] y HY.out]))
      go_ret
      exact ⟨rfl, below_drewN (hb8'.trans (hb10.mono hb8'.size)) n11⟩

set_option maxHeartbeats 1600000 in
theorem urlAdds_any (s t r : ByteArray) (w : World) (he : Env w) :
    Calls Tryd.prog 7 #[.string s, .string t, .string r] w (AwakePost w) := by
  obtain ⟨l, rfl⟩ : ∃ l, s = S l := ⟨s.data.toList, rfl⟩
  obtain ⟨n, rfl⟩ : ∃ n, t = S n := ⟨t.data.toList, rfl⟩
  obtain ⟨v, rfl⟩ : ∃ v, r = S v := ⟨r.data.toList, rfl⟩
  have hzl : (S l).size = l.length := rfl
  have hzn : (S n).size = n.length := rfl
  have hzv : (S v).size = v.length := rfl
  cases hp : Url.parse l with
  | error m =>
    have hne := err_ne hp
    have HP := Lib.hid hp
    clear hp
    go_enter Tryd.func7, Tryd.ntmps7
    go_wp2_with fail
    refine (awake_url w he).mono ?_
    rintro e w1 ⟨rfl, hb1⟩
    go_wp2_with fail
    refine (parse_err' l m w1 (he.next hb1) HP.out).mono ?_
    rintro e w2 ⟨rfl, hb2⟩
    have hb2' := below_next hb1 hb2
    go_wp2
    go_ret
    exact ⟨rfl, hb2'.alloc hb2'.size _⟩
  | ok u =>
    have HP := Lib.hid hp
    have HOK := Lib.hid (fun h1 h2 h3 => urlAdds_ok l n v u w he h1 h2 h3 hp)
    clear hp
    by_cases h1 : l.length ≤ 200
    · by_cases h2 : n.length ≤ 100
      · by_cases h3 : v.length ≤ 100
        · exact HOK.out h1 h2 h3
        · go_enter Tryd.func7, Tryd.ntmps7; go_wp2_with fail; refine (awake_url w he).mono ?_; rintro e w1 ⟨rfl, hb1⟩; go_wp2_with fail; refine (parse_ok' l u w1 (he.next hb1) HP.out).mono ?_; rintro e w2 ⟨rfl, hb2⟩; have hb2' := below_next hb1 hb2; go_wp2; go_ret; exact ⟨rfl, hb2'.alloc hb2'.size _⟩
      · go_enter Tryd.func7, Tryd.ntmps7; go_wp2_with fail; refine (awake_url w he).mono ?_; rintro e w1 ⟨rfl, hb1⟩; go_wp2_with fail; refine (parse_ok' l u w1 (he.next hb1) HP.out).mono ?_; rintro e w2 ⟨rfl, hb2⟩; have hb2' := below_next hb1 hb2; go_wp2; go_ret; exact ⟨rfl, hb2'.alloc hb2'.size _⟩
    · go_enter Tryd.func7, Tryd.ntmps7; go_wp2_with fail; refine (awake_url w he).mono ?_; rintro e w1 ⟨rfl, hb1⟩; go_wp2_with fail; refine (parse_ok' l u w1 (he.next hb1) HP.out).mono ?_; rintro e w2 ⟨rfl, hb2⟩; have hb2' := below_next hb1 hb2; go_wp2; go_ret; exact ⟨rfl, hb2'.alloc hb2'.size _⟩
end Go.Proofs.YtndimjkdmhhohaaDoor
