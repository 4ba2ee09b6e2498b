/- What the statement UrlTells does at any URL and any three texts: it answers true and turns nothing that was there, where the variables that it reaches read as their texts lay them. -/
import Derived.Test.YtndimjkdmhhohaaDoorEqU
import Derived.Test.YtndimjkdmhhohaaDoorVn
namespace Go.Proofs.YtndimjkdmhhohaaDoor
set_option maxRecDepth 8000
open Go.RowKit

set_option maxHeartbeats 1600000 in
theorem urlTells_ok (u : Url.U) (n v p : List UInt8) (w : World) (he : Env w) (h1 : u.scheme.length ≤ 200) (h2 : u.host.length ≤ 200) (h3 : u.port ≤ 9223372036854775807) (h4 : u.path.length ≤ 200) (h5 : u.query.length ≤ 200) (h6 : n.length ≤ 200) (h7 : v.length ≤ 200) (h8 : p.length ≤ 200) :
    Calls Tryd.prog 4 #[.agg #[.string (S u.scheme), .string (S u.host), .int .i64 (u.port : Int), .string (S u.path), .string (S u.query), .bool u.ask], .string (S n), .string (S v), .string (S p)] w (AwakePost w) := by
  have hS := S_list
  have z1 : (S u.scheme).size = u.scheme.length := rfl
  have z2 : (S u.host).size = u.host.length := rfl
  have z3 : (S u.path).size = u.path.length := rfl
  have z4 : (S u.query).size = u.query.length := rfl
  have z5 : (S n).size = n.length := rfl
  have z6 : (S v).size = v.length := rfl
  have z7 : (S p).size = p.length := rfl
  have hfew : Few u := ⟨by omega, by omega, h3, by omega, by omega⟩
  have hp0 : (0 : Int) ≤ (u.port : Int) := by omega
  have HA1 := Lib.hid (fun w' => fun he' : Env w' => string_any u w' he' hfew)
  have HA2 := Lib.hid (fun w' : World => refString_any u w' hfew)
  have HA3 := Lib.hid (fun w' => fun he' : Env w' => origin_any u w' he' hfew)
  have HA4 := Lib.hid (fun w' : World => refOrigin_any u w' hfew)
  have HA5 := Lib.hid (fun w' => fun he' : Env w' => add_url u n v w' he'.digs hfew (by omega) (by omega))
  have HA6 := Lib.hid (fun w' : World => refAdd_any u n v w' hfew (by omega) (by omega))
  have HA7 := Lib.hid (fun w' : World => dots_any p w' (by omega))
  have HA8 := Lib.hid (fun w' : World => (show Calls Tryd.prog 21 #[.string (S p)] w' (Told w' (.returned (.string (S (Url.dots p))))) from refDots_any (S p) w' (by show p.length ≤ _; omega)))
  unfold uV uCells at HA1 HA2 HA3 HA4 HA5 HA6
  generalize Url.str u = x1 at HA1 HA2
  generalize Url.origin u = x2 at HA3 HA4
  have hgd := Tryd.guardU
  have q1 : ∀ w' : World, (binOp .eql 24 (.agg #[.string (S (addU u n v).scheme), .string (S (addU u n v).host), .int .i64 ((addU u n v).port : Int), .string (S (addU u n v).path), .string (S (addU u n v).query), .bool (addU u n v).ask]) (.agg #[.string (S (addU u n v).scheme), .string (S (addU u n v).host), .int .i64 ((addU u n v).port : Int), .string (S (addU u n v).path), .string (S (addU u n v).query), .bool (addU u n v).ask])).run Tryd.prog w' = .ok (.bool true) w' := fun w' => by
    have := run_eq_url w' (addU u n v) (addU u n v)
    rw [uEq_self] at this
    exact this
  generalize addU u n v = ad at HA5 HA6 q1
  generalize Url.dots p = x3 at HA7 HA8
  go_enter Tryd.func4, Tryd.ntmps4
  go_wp2_with fail
  have hb0 := (Below.refl w.heap.size w).alloc (Nat.le_refl _) (.cells #[.string (S u.scheme), .string (S u.host), .int .i64 (u.port : Int), .string (S u.path), .string (S u.query), .bool u.ask] 24)
  have bu0 : BlkU (w.alloc (.cells #[.string (S u.scheme), .string (S u.host), .int .i64 (u.port : Int), .string (S u.path), .string (S u.query), .bool u.ask] 24)) w.heap.size u := heap_alloc_new w _
  refine (awake_url _ (he.next hb0)).mono ?_
  rintro e w1 ⟨rfl, hb1⟩
  have bu1 := bu0.below hb1 (below_lt bu0)
  have hb1' := below_next hb0 hb1
  clear bu0 hb0 hb1
  obtain ⟨c0, c1, c2, c3, c4, c5⟩ := bu1.six0
  go_wp2_with fail
  have hU : UAt w w.heap.size w1 := ⟨hb1', below_lt bu1⟩
  clear bu1 hb1'
  go_region_held3 (fun w' => w'.cell? ⟨w.heap.size, 0, none⟩ = some (.string (S u.scheme)) ∧ w'.cell? ⟨w.heap.size, 1, none⟩ = some (.string (S u.host)) ∧ w'.cell? ⟨w.heap.size, 2, none⟩ = some (.int .i64 (u.port : Int)) ∧ w'.cell? ⟨w.heap.size, 3, none⟩ = some (.string (S u.path)) ∧ w'.cell? ⟨w.heap.size, 4, none⟩ = some (.string (S u.query)) ∧ w'.cell? ⟨w.heap.size, 5, none⟩ = some (.bool u.ask) ∧ UAt w w.heap.size w')
    (first
      | exact ⟨c0, c1, c2, c3, c4, c5, UAt.drew hU⟩
      | (go_split_ands
         refine ⟨UAt.cell ‹UAt _ _ _› hb ‹_›, UAt.cell ‹UAt _ _ _› hb ‹_›, UAt.cell ‹UAt _ _ _› hb ‹_›, UAt.cell ‹UAt _ _ _› hb ‹_›, UAt.cell ‹UAt _ _ _› hb ‹_›, UAt.cell ‹UAt _ _ _› hb ‹_›, UAt.call ‹UAt _ _ _› hb⟩))
    (first
      | (go_at_call 14; go_split_ands; refine (HA1.out _ (he.next (‹UAt _ _ _›).1)).mono ?_; rintro e w' ⟨rfl, hb⟩)
      | (go_at_call 15; refine (HA2.out _).mono ?_; rintro e w' ⟨rfl, hb⟩)
      | (go_at_call 16; go_split_ands; refine (HA3.out _ (he.next (‹UAt _ _ _›).1)).mono ?_; rintro e w' ⟨rfl, hb⟩)
      | (go_at_call 17; refine (HA4.out _).mono ?_; rintro e w' ⟨rfl, hb⟩)
      | (go_at_call 18; go_split_ands; refine (HA5.out _ (he.next (‹UAt _ _ _›).1)).mono ?_; rintro e w' ⟨rfl, hb⟩)
      | (go_at_call 19; refine (HA6.out _).mono ?_; rintro e w' ⟨rfl, hb⟩)
      | (go_at_call 20; refine (HA7.out _).mono ?_; rintro e w' ⟨rfl, hb⟩)
      | (go_at_call 21; refine (HA8.out _).mono ?_; rintro e w' ⟨rfl, hb⟩))
  rename_i hH
  obtain ⟨_, _, _, _, _, _, hU2⟩ := hH
  clear hb hU
  go_wp2
  go_ret
  exact ⟨rfl, hU2.1⟩

theorem cells6_past {w w1 : World} {a b d e f : Value} {c : Value} (hb : Below (w.alloc (.cells #[a, b, c, d, e, f] 24)).heap.size (w.alloc (.cells #[a, b, c, d, e, f] 24)) w1) :
    w1.cell? ⟨w.heap.size, 0, none⟩ = some a ∧ w1.cell? ⟨w.heap.size, 1, none⟩ = some b ∧ w1.cell? ⟨w.heap.size, 2, none⟩ = some c ∧ w1.cell? ⟨w.heap.size, 3, none⟩ = some d ∧ w1.cell? ⟨w.heap.size, 4, none⟩ = some e ∧ w1.cell? ⟨w.heap.size, 5, none⟩ = some f := by
  have hg := heap_alloc_new w (.cells #[a, b, c, d, e, f] 24)
  have hg1 : w1.heap[w.heap.size]? = some (.cells #[a, b, c, d, e, f] 24) := (hb.block w.heap.size (by simp)).trans hg
  have hc := fun i => cell_of_row w1 w.heap.size i _ _ _ hg1
  exact ⟨hc 0, hc 1, hc 2, hc 3, hc 4, hc 5⟩

set_option maxHeartbeats 3200000 in
theorem urlTells_lists (sc ho pa qu n v p : List UInt8) (po : Int) (ak : Bool) (w : World) (he : Env w) (hpo : po ≤ 9223372036854775807) :
    Calls Tryd.prog 4 #[.agg #[.string (S sc), .string (S ho), .int .i64 po, .string (S pa), .string (S qu), .bool ak], .string (S n), .string (S v), .string (S p)] w (AwakePost w) := by
  have z1 : (S sc).size = sc.length := rfl
  have z2 : (S ho).size = ho.length := rfl
  have z3 : (S pa).size = pa.length := rfl
  have z4 : (S qu).size = qu.length := rfl
  have z5 : (S n).size = n.length := rfl
  have z6 : (S v).size = v.length := rfl
  have z7 : (S p).size = p.length := rfl
  have hb0 := (Below.refl w.heap.size w).alloc (Nat.le_refl _) (.cells #[.string (S sc), .string (S ho), .int .i64 po, .string (S pa), .string (S qu), .bool ak] 24)
  by_cases k0 : 0 ≤ po
  · by_cases k1 : sc.length ≤ 200
    · by_cases k2 : ho.length ≤ 200
      · by_cases k3 : pa.length ≤ 200
        · by_cases k4 : qu.length ≤ 200
          · by_cases k5 : n.length ≤ 200
            · by_cases k6 : v.length ≤ 200
              · by_cases k7 : p.length ≤ 200
                · obtain ⟨m, rfl⟩ : ∃ m : Nat, po = (m : Int) := ⟨po.toNat, by omega⟩
                  clear hb0 z1 z2 z3 z4 z5 z6 z7
                  exact urlTells_ok ⟨sc, ho, m, pa, qu, ak⟩ n v p w he k1 k2 (by show m ≤ _; omega) k3 k4 k5 k6 k7
                · go_enter Tryd.func4, Tryd.ntmps4
                  go_wp2_with fail
                  refine (awake_url _ (he.next hb0)).mono ?_
                  rintro e w1 ⟨rfl, hb1⟩
                  have bu1 := cells6_past hb1
                  obtain ⟨c0, c1, c2, c3, c4, c5⟩ := bu1
                  have hb1' := below_next hb0 hb1
                  go_wp2
                  go_ret
                  exact ⟨rfl, hb1'⟩
              · go_enter Tryd.func4, Tryd.ntmps4
                go_wp2_with fail
                refine (awake_url _ (he.next hb0)).mono ?_
                rintro e w1 ⟨rfl, hb1⟩
                have bu1 := cells6_past hb1
                obtain ⟨c0, c1, c2, c3, c4, c5⟩ := bu1
                have hb1' := below_next hb0 hb1
                go_wp2
                go_ret
                exact ⟨rfl, hb1'⟩
            · go_enter Tryd.func4, Tryd.ntmps4
              go_wp2_with fail
              refine (awake_url _ (he.next hb0)).mono ?_
              rintro e w1 ⟨rfl, hb1⟩
              have bu1 := cells6_past hb1
              obtain ⟨c0, c1, c2, c3, c4, c5⟩ := bu1
              have hb1' := below_next hb0 hb1
              go_wp2
              go_ret
              exact ⟨rfl, hb1'⟩
          · go_enter Tryd.func4, Tryd.ntmps4
            go_wp2_with fail
            refine (awake_url _ (he.next hb0)).mono ?_
            rintro e w1 ⟨rfl, hb1⟩
            have bu1 := cells6_past hb1
            obtain ⟨c0, c1, c2, c3, c4, c5⟩ := bu1
            have hb1' := below_next hb0 hb1
            go_wp2
            go_ret
            exact ⟨rfl, hb1'⟩
        · go_enter Tryd.func4, Tryd.ntmps4
          go_wp2_with fail
          refine (awake_url _ (he.next hb0)).mono ?_
          rintro e w1 ⟨rfl, hb1⟩
          have bu1 := cells6_past hb1
          obtain ⟨c0, c1, c2, c3, c4, c5⟩ := bu1
          have hb1' := below_next hb0 hb1
          go_wp2
          go_ret
          exact ⟨rfl, hb1'⟩
      · go_enter Tryd.func4, Tryd.ntmps4
        go_wp2_with fail
        refine (awake_url _ (he.next hb0)).mono ?_
        rintro e w1 ⟨rfl, hb1⟩
        have bu1 := cells6_past hb1
        obtain ⟨c0, c1, c2, c3, c4, c5⟩ := bu1
        have hb1' := below_next hb0 hb1
        go_wp2
        go_ret
        exact ⟨rfl, hb1'⟩
    · go_enter Tryd.func4, Tryd.ntmps4
      go_wp2_with fail
      refine (awake_url _ (he.next hb0)).mono ?_
      rintro e w1 ⟨rfl, hb1⟩
      have bu1 := cells6_past hb1
      obtain ⟨c0, c1, c2, c3, c4, c5⟩ := bu1
      have hb1' := below_next hb0 hb1
      go_wp2
      go_ret
      exact ⟨rfl, hb1'⟩
  · go_enter Tryd.func4, Tryd.ntmps4
    go_wp2_with fail
    refine (awake_url _ (he.next hb0)).mono ?_
    rintro e w1 ⟨rfl, hb1⟩
    have bu1 := cells6_past hb1
    obtain ⟨c0, c1, c2, c3, c4, c5⟩ := bu1
    have hb1' := below_next hb0 hb1
    go_wp2
    go_ret
    exact ⟨rfl, hb1'⟩

theorem urlTells_any (sc ho pa qu n v p : ByteArray) (po : Int) (ak : Bool) (w : World) (he : Env w) (hpo : po ≤ 9223372036854775807) :
    Calls Tryd.prog 4 #[.agg #[.string sc, .string ho, .int .i64 po, .string pa, .string qu, .bool ak], .string n, .string v, .string p] w (AwakePost w) :=
  urlTells_lists sc.data.toList ho.data.toList pa.data.toList qu.data.toList n.data.toList v.data.toList p.data.toList po ak w he hpo
end Go.Proofs.YtndimjkdmhhohaaDoor
