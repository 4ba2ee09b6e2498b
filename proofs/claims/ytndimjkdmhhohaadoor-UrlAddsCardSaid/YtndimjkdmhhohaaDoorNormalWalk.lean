/- What the statement UrlNormal does at any two texts: it answers true and turns nothing that was there, where the variables that it reaches read as their texts lay them. -/
import Derived.Test.YtndimjkdmhhohaaDoorEqU
namespace Go.Proofs.YtndimjkdmhhohaaDoor
set_option maxRecDepth 8000
open Go.RowKit

theorem str_len {l : List UInt8} {u : Url.U} (h : Parsed l u) : (Url.str u).length ≤ 2 * l.length + 120 := by
  have h1 := origin_len u h.few
  have h2 := h.scheme
  have h3 := h.good.host64
  have h4 := h.path
  have h5 := h.query
  unfold Url.str
  simp only [List.length_append]
  split
  · simp; omega
  · simp; omega
/-- What is written of what was read is read as the same. -/
theorem parse_back {l : List UInt8} {u : Url.U} (h : Parsed l u) (hl : l.length ≤ 900) : Url.parse (Url.str u) = .ok u := Url.parse_str h.good (by have := str_len h; omega)
theorem str_inj {l m : List UInt8} {u v : Url.U} (hu : Parsed l u) (hv : Parsed m v) (hl : l.length ≤ 900) (hm : m.length ≤ 900) : (Url.str u == Url.str v) = uEq u v := by
  by_cases h : u = v
  · subst h
    rw [uEq_self]
    simp
  · rw [uEq_ne h, beq_eq_false_iff_ne]
    intro e
    have h1 := parse_back hu hl
    rw [e, parse_back hv hm] at h1
    injection h1 with h1
    exact h h1.symm

theorem normal_ok (l : List UInt8) (u : Url.U) (w : World) (he : Env w) (h : Url.parse l = .ok u) :
    Calls Tryd.prog 12 #[.string (S l)] w fun e w' => e = .returned (.tuple #[.string (S (Url.str u)), .int .i64 0]) ∧ Below w.heap.size w w' := by
  have := normal_url l w he
  rw [h] at this
  exact this
theorem normal_err (l : List UInt8) (n : Nat) (w : World) (he : Env w) (h : Url.parse l = .error n) :
    Calls Tryd.prog 12 #[.string (S l)] w fun e w' => e = .returned (.tuple #[.string ⟨#[]⟩, .int .i64 n]) ∧ Below w.heap.size w w' := by
  have := normal_url l w he
  rw [h] at this
  exact this
theorem parse_ok' (l : List UInt8) (u : Url.U) (w : World) (he : Env w) (h : Url.parse l = .ok u) :
    Calls Tryd.prog 10 #[.string (S l)] w fun e w' => e = .returned (.tuple #[.agg #[.string (S u.scheme), .string (S u.host), .int .i64 (u.port : Int), .string (S u.path), .string (S u.query), .bool u.ask], .int .i64 0]) ∧ Below w.heap.size w w' := by
  have := parse_any l w he
  rw [h] at this
  exact this
theorem parse_err' (l : List UInt8) (n : Nat) (w : World) (he : Env w) (h : Url.parse l = .error n) :
    Calls Tryd.prog 10 #[.string (S l)] w fun e w' => e = .returned (.tuple #[.agg #[.string ⟨#[]⟩, .string ⟨#[]⟩, .int .i64 0, .string ⟨#[]⟩, .string ⟨#[]⟩, .bool false], .int .i64 n]) ∧ Below w.heap.size w w' := by
  have := parse_any l w he
  rw [h] at this
  exact this

/-- What a call of Parse answers, whichever. -/
def pU (r : Except Nat Url.U) : Url.U := match r with | .ok u => u | .error _ => zeroU
def pN (r : Except Nat Url.U) : Nat := match r with | .ok _ => 0 | .error n => n
def pS (r : Except Nat Url.U) : List UInt8 := match r with | .ok u => Url.str u | .error _ => []
theorem parse_all (l : List UInt8) (w : World) (he : Env w) :
    Calls Tryd.prog 10 #[.string (S l)] w fun e w' => e = .returned (.tuple #[uV (pU (Url.parse l)), .int .i64 (pN (Url.parse l) : Int)]) ∧ Below w.heap.size w w' := by
  have := parse_any l w he
  cases h : Url.parse l with
  | ok u => rw [h] at this; exact this
  | error n => rw [h] at this; exact this
theorem normal_all (l : List UInt8) (w : World) (he : Env w) :
    Calls Tryd.prog 12 #[.string (S l)] w fun e w' => e = .returned (.tuple #[.string (S (pS (Url.parse l))), .int .i64 (pN (Url.parse l) : Int)]) ∧ Below w.heap.size w w' := by
  have := normal_url l w he
  cases h : Url.parse l with
  | ok u => rw [h] at this; exact this
  | error n => rw [h] at this; exact this

/-- The cells of a URL's block, where it reads as it was. -/
theorem BlkU.six {w : World} {g : Nat} {u : Url.U} (h : BlkU w g u) : w.cell? ⟨g, 0, none⟩ = some (.string (S u.scheme)) ∧ w.cell? ⟨g, 1, none⟩ = some (.string (S u.host)) ∧ w.cell? ⟨g, 2, none⟩ = some (.int .i64 (u.port : Int)) ∧ w.cell? ⟨g, 3, none⟩ = some (.string (S u.path)) ∧ w.cell? ⟨g, 4, none⟩ = some (.string (S u.query)) ∧ w.cell? ⟨g, 5, none⟩ = some (.bool u.ask) := ⟨h.c0, h.c1, h.c2, h.c3, h.c4, h.c5⟩
abbrev uObj (u : Url.U) : Obj := .cells #[.string (S u.scheme), .string (S u.host), .int .i64 (u.port : Int), .string (S u.path), .string (S u.query), .bool u.ask] 24
theorem blk_new (w : World) (u : Url.U) : BlkU (w.alloc (uObj u)) w.heap.size u := heap_alloc_new w _
theorem BlkU.past {w w' : World} {g : Nat} {u : Url.U} (h : BlkU w g u) (hb : Below w.heap.size w w') : BlkU w' g u := h.below hb (below_lt h)
theorem BlkU.more {w : World} {g : Nat} {u : Url.U} (h : BlkU w g u) (o : Obj) : BlkU (w.alloc o) g u := h.past ((Below.refl _ _).alloc (Nat.le_refl _) o)

set_option maxHeartbeats 3200000 in
theorem urlNormal_ok (l m : List UInt8) (u v : Url.U) (w : World) (he : Env w) (h1 : l.length ≤ 200) (h2 : m.length ≤ 200) (hu : Url.parse l = .ok u) (hv : Url.parse m = .ok v) :
    Calls Tryd.prog 5 #[.string (S l), .string (S m)] w (AwakePost w) := by
  have hS := S_list
  have hzl : (S l).size = l.length := rfl
  have hzm : (S m).size = m.length := rfl
  have HU := Lib.hid hu
  have HV := Lib.hid hv
  have gu := parse_good hu
  have gv := parse_good hv
  have HB := Lib.hid (parse_back gu (by omega))
  have HI := Lib.hid (str_inj gu gv (by omega) (by omega))
  clear hu hv gu gv
  go_enter Tryd.func5, Tryd.ntmps5
  go_wp2_with fail
  refine (awake_url w he).mono ?_
  rintro e w1 ⟨rfl, hb1⟩
  have he1 := he.next hb1
  go_wp2_with fail
  refine (parse_ok' l u w1 he1 HU.out).mono ?_
  rintro e w2 ⟨rfl, hb2⟩
  have bu2 := blk_new w2 u
  have hb2' := (below_next hb1 hb2).alloc (below_next hb1 hb2).size (uObj u)
  have he2 := he.next hb2'
  clear hb1 hb2 he1
  go_wp2_with fail
  refine (parse_ok' m v _ he2 HV.out).mono ?_
  rintro e w3 ⟨rfl, hb3⟩
  have bu3 := (bu2.past hb3).more (uObj v)
  have bv3 := blk_new w3 v
  have hb3' := (below_next hb2' hb3).alloc (below_next hb2' hb3).size (uObj v)
  have he3 := he.next hb3'
  clear hb2' hb3 he2 bu2
  go_wp2_with fail
  refine (normal_ok l u _ he3 HU.out).mono ?_
  rintro e w4 ⟨rfl, hb4⟩
  have bu4 := bu3.past hb4
  have bv4 := bv3.past hb4
  have hb4' := below_next hb3' hb4
  have he4 := he.next hb4'
  clear hb3' hb4 he3 bu3 bv3
  go_wp2_with fail
  refine (normal_ok m v _ he4 HV.out).mono ?_
  rintro e w5 ⟨rfl, hb5⟩
  have bu5 := bu4.past hb5
  have bv5 := bv4.past hb5
  have hb5' := below_next hb4' hb5
  have he5 := he.next hb5'
  clear hb4' hb5 he4 bu4 bv4
  go_wp2_with fail
  refine (parse_ok' (Url.str u) u _ he5 HB.out).mono ?_
  rintro e w6 ⟨rfl, hb6⟩
  have bu6 := (bu5.past hb6).more (uObj u)
  have bv6 := (bv5.past hb6).more (uObj u)
  have bw6 := blk_new w6 u
  have hb6' := (below_next hb5' hb6).alloc (below_next hb5' hb6).size (uObj u)
  have he6 := he.next hb6'
  clear hb5' hb6 he5 bu5 bv5
  go_wp2_with fail
  refine (normal_ok (Url.str u) u _ he6 HB.out).mono ?_
  rintro e w7 ⟨rfl, hb7⟩
  have bu7 := bu6.past hb7
  have bv7 := bv6.past hb7
  have bw7 := bw6.past hb7
  have hb7' := below_next hb6' hb7
  clear hb6' hb7 he6 bu6 bv6 bw6
  obtain ⟨a0, a1, a2, a3, a4, a5⟩ := bu7.six
  obtain ⟨b0, b1, b2, b3, b4, b5⟩ := bv7.six
  obtain ⟨c0, c1, c2, c3, c4, c5⟩ := bw7.six
  have q1 : ∀ w' : World, (binOp .eql 24 (.agg #[.string (S u.scheme), .string (S u.host), .int .i64 (u.port : Int), .string (S u.path), .string (S u.query), .bool u.ask]) (.agg #[.string (S u.scheme), .string (S u.host), .int .i64 (u.port : Int), .string (S u.path), .string (S u.query), .bool u.ask])).run Tryd.prog w' = .ok (.bool true) w' := fun w' => by
    have := run_eq_url w' u u
    rw [uEq_self] at this
    exact this
  have q2 : ∀ w' : World, (binOp .eql 24 (.agg #[.string (S u.scheme), .string (S u.host), .int .i64 (u.port : Int), .string (S u.path), .string (S u.query), .bool u.ask]) (.agg #[.string (S v.scheme), .string (S v.host), .int .i64 (v.port : Int), .string (S v.path), .string (S v.query), .bool v.ask])).run Tryd.prog w' = .ok (.bool (uEq u v)) w' := fun w' => run_eq_url w' u v
  clear bu7 bv7 bw7
  have hI := HI.out
  have hg := Tryd.guardU
  go_wp2
  go_ret
  exact ⟨rfl, hb7'⟩

def PAll (l : List UInt8) (U1 : Url.U) (N1 : Nat) : Prop := ∀ w : World, Env w → Calls Tryd.prog 10 #[.string (S l)] w fun e w' => e = .returned (.tuple #[.agg #[.string (S U1.scheme), .string (S U1.host), .int .i64 (U1.port : Int), .string (S U1.path), .string (S U1.query), .bool U1.ask], .int .i64 (N1 : Int)]) ∧ Below w.heap.size w w'
def NAll (l S1 : List UInt8) (N1 : Nat) : Prop := ∀ w : World, Env w → Calls Tryd.prog 12 #[.string (S l)] w fun e w' => e = .returned (.tuple #[.string (S S1), .int .i64 (N1 : Int)]) ∧ Below w.heap.size w w'
theorem all_of (l : List UInt8) : ∃ U1 N1 S1, PAll l U1 N1 ∧ NAll l S1 N1 ∧ (N1 = 0 ∨ S1 = []) ∧ ((∃ u, Url.parse l = .ok u) ∨ N1 ≠ 0) := by
  refine ⟨pU (Url.parse l), pN (Url.parse l), pS (Url.parse l), fun w he => parse_all l w he, fun w he => normal_all l w he, ?_, ?_⟩
  · cases h : Url.parse l with
    | ok u => exact .inl rfl
    | error n => exact .inr rfl
  · cases h : Url.parse l with
    | ok u => exact .inl ⟨u, rfl⟩
    | error n =>
      right
      have := err_ne h
      intro e
      have e' : n = 0 := e
      rw [e'] at this
      cases this

set_option maxHeartbeats 3200000 in
theorem urlNormal_bad (l m S1 S2 : List UInt8) (U1 U2 : Url.U) (N1 N2 : Nat) (w : World) (he : Env w) (h1 : l.length ≤ 200) (h2 : m.length ≤ 200) (HP1 : Hid (PAll l U1 N1)) (HP2 : Hid (PAll m U2 N2)) (HN1 : Hid (NAll l S1 N1)) (HN2 : Hid (NAll m S2 N2))
    (hz1 : N1 = 0 ∨ S1 = []) (hz2 : N2 = 0 ∨ S2 = []) (hb : N1 ≠ 0 ∨ N2 ≠ 0) :
    Calls Tryd.prog 5 #[.string (S l), .string (S m)] w (AwakePost w) := by
  unfold PAll at HP1 HP2
  unfold NAll at HN1 HN2
  have hS := S_list
  have hzl : (S l).size = l.length := rfl
  have hzm : (S m).size = m.length := rfl
  by_cases z1 : N1 = 0
  · subst z1
    have z2 : N2 ≠ 0 := by
      rcases hb with h | h
      · exact absurd rfl h
      · exact h
    have s2 : S2 = [] := by
      rcases hz2 with h | h
      · exact absurd h z2
      · exact h
    subst s2
    have e1 : ((N2 : Int) != 0) = true := by simp; omega
    have e2 : ((N2 : Int) == 0) = false := by simp; omega
    clear hz1 hz2 hb z2
    go_enter Tryd.func5, Tryd.ntmps5
    go_wp2_with fail
    refine (awake_url w he).mono ?_
    rintro e w1 ⟨rfl, hb1⟩
    have he1 := he.next hb1
    go_wp2_with fail
    refine (HP1.out w1 he1).mono ?_
    rintro e w2 ⟨rfl, hb2⟩
    have hb2' := (below_next hb1 hb2).alloc (below_next hb1 hb2).size (uObj U1)
    have he2 := he.next hb2'
    clear hb1 hb2 he1
    go_wp2_with fail
    refine (HP2.out _ he2).mono ?_
    rintro e w3 ⟨rfl, hb3⟩
    have hb3' := (below_next hb2' hb3).alloc (below_next hb2' hb3).size (uObj U2)
    have he3 := he.next hb3'
    clear hb2' hb3 he2
    go_wp2_with fail
    refine (HN1.out _ he3).mono ?_
    rintro e w4 ⟨rfl, hb4⟩
    have hb4' := below_next hb3' hb4
    have he4 := he.next hb4'
    clear hb3' hb4 he3
    go_wp2_with fail
    refine (HN2.out _ he4).mono ?_
    rintro e w5 ⟨rfl, hb5⟩
    have hb5' := below_next hb4' hb5
    clear hb4' hb5 he4
    go_wp2
    go_ret
    exact ⟨rfl, hb5'⟩
  · have s1 : S1 = [] := by
      rcases hz1 with h | h
      · exact absurd h z1
      · exact h
    subst s1
    have e1 : ((N1 : Int) != 0) = true := by simp; omega
    have e2 : ((N1 : Int) == 0) = false := by simp; omega
    by_cases z2 : N2 = 0
    · subst z2
      clear hz1 hz2 hb z1
      go_enter Tryd.func5, Tryd.ntmps5
      go_wp2_with fail
      refine (awake_url w he).mono ?_
      rintro e w1 ⟨rfl, hb1⟩
      have he1 := he.next hb1
      go_wp2_with fail
      refine (HP1.out w1 he1).mono ?_
      rintro e w2 ⟨rfl, hb2⟩
      have hb2' := (below_next hb1 hb2).alloc (below_next hb1 hb2).size (uObj U1)
      have he2 := he.next hb2'
      clear hb1 hb2 he1
      go_wp2_with fail
      refine (HP2.out _ he2).mono ?_
      rintro e w3 ⟨rfl, hb3⟩
      have hb3' := (below_next hb2' hb3).alloc (below_next hb2' hb3).size (uObj U2)
      have he3 := he.next hb3'
      clear hb2' hb3 he2
      go_wp2_with fail
      refine (HN1.out _ he3).mono ?_
      rintro e w4 ⟨rfl, hb4⟩
      have hb4' := below_next hb3' hb4
      have he4 := he.next hb4'
      clear hb3' hb4 he3
      go_wp2_with fail
      refine (HN2.out _ he4).mono ?_
      rintro e w5 ⟨rfl, hb5⟩
      have hb5' := below_next hb4' hb5
      clear hb4' hb5 he4
      go_wp2
      go_ret
      exact ⟨rfl, hb5'⟩
    · have s2 : S2 = [] := by
        rcases hz2 with h | h
        · exact absurd h z2
        · exact h
      subst s2
      have e3 : ((N2 : Int) != 0) = true := by simp; omega
      have e4 : ((N2 : Int) == 0) = false := by simp; omega
      clear hz1 hz2 hb z1 z2
      go_enter Tryd.func5, Tryd.ntmps5
      go_wp2_with fail
      refine (awake_url w he).mono ?_
      rintro e w1 ⟨rfl, hb1⟩
      have he1 := he.next hb1
      go_wp2_with fail
      refine (HP1.out w1 he1).mono ?_
      rintro e w2 ⟨rfl, hb2⟩
      have hb2' := (below_next hb1 hb2).alloc (below_next hb1 hb2).size (uObj U1)
      have he2 := he.next hb2'
      clear hb1 hb2 he1
      go_wp2_with fail
      refine (HP2.out _ he2).mono ?_
      rintro e w3 ⟨rfl, hb3⟩
      have hb3' := (below_next hb2' hb3).alloc (below_next hb2' hb3).size (uObj U2)
      have he3 := he.next hb3'
      clear hb2' hb3 he2
      go_wp2_with fail
      refine (HN1.out _ he3).mono ?_
      rintro e w4 ⟨rfl, hb4⟩
      have hb4' := below_next hb3' hb4
      have he4 := he.next hb4'
      clear hb3' hb4 he3
      go_wp2_with fail
      refine (HN2.out _ he4).mono ?_
      rintro e w5 ⟨rfl, hb5⟩
      have hb5' := below_next hb4' hb5
      clear hb4' hb5 he4
      go_wp2
      go_ret
      exact ⟨rfl, hb5'⟩

set_option maxHeartbeats 800000 in
theorem urlNormal_any (s t : ByteArray) (w : World) (he : Env w) :
    Calls Tryd.prog 5 #[.string s, .string t] w (AwakePost w) := by
  obtain ⟨l, rfl⟩ : ∃ l, s = S l := ⟨s.data.toList, rfl⟩
  obtain ⟨m, rfl⟩ : ∃ m, t = S m := ⟨t.data.toList, rfl⟩
  have hzl : (S l).size = l.length := rfl
  have hzm : (S m).size = m.length := rfl
  by_cases h1 : 200 < l.length
  · go_enter Tryd.func5, Tryd.ntmps5
    go_wp2_with fail
    refine (awake_url w he).mono ?_
    rintro e w1 ⟨rfl, hb1⟩
    go_wp2
    go_ret
    exact ⟨rfl, hb1⟩
  · by_cases h2 : 200 < m.length
    · go_enter Tryd.func5, Tryd.ntmps5
      go_wp2_with fail
      refine (awake_url w he).mono ?_
      rintro e w1 ⟨rfl, hb1⟩
      go_wp2
      go_ret
      exact ⟨rfl, hb1⟩
    · clear hzl hzm
      obtain ⟨U1, N1, S1, p1, n1, z1, o1⟩ := all_of l
      obtain ⟨U2, N2, S2, p2, n2, z2, o2⟩ := all_of m
      rcases o1 with ⟨u, hu⟩ | o1
      · rcases o2 with ⟨v, hv⟩ | o2
        · exact urlNormal_ok l m u v w he (by omega) (by omega) hu hv
        · exact urlNormal_bad l m S1 S2 U1 U2 N1 N2 w he (by omega) (by omega) (Lib.hid p1) (Lib.hid p2) (Lib.hid n1) (Lib.hid n2) z1 z2 (.inr o2)
      · exact urlNormal_bad l m S1 S2 U1 U2 N1 N2 w he (by omega) (by omega) (Lib.hid p1) (Lib.hid p2) (Lib.hid n1) (Lib.hid n2) z1 z2 (.inl o1)
end Go.Proofs.YtndimjkdmhhohaaDoor
