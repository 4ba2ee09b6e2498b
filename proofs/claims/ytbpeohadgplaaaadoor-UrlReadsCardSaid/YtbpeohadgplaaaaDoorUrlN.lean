/- The statement UrlReads, and the document's own Normal of URLs, where the document's own Parse answers as the plain reading does. -/
import Derived.Test.YtbpeohadgplaaaaDoorEqU
namespace Go.Proofs.YtbpeohadgplaaaaDoor
set_option maxRecDepth 8000
open Go.RowKit

/-- What is asked of the document's own Parse. -/
def RefParses : Prop := ∀ (l : List UInt8) (w : World), Env w → Calls Tryd.prog 12 #[.string (S l)] w (Told w (parseRes (Url.parse l)))

set_option maxHeartbeats 400000 in
theorem refNormal_of (HPP : RefParses) (l : List UInt8) (w : World) (he : Env w) :
    Calls Tryd.prog 14 #[.string (S l)] w (Told w (normRes (Url.parse l))) := by
  have hp := HPP l w he
  cases hpl : Url.parse l with
  | error n =>
    rw [hpl] at hp
    unfold parseRes at hp
    have hne := err_ne hpl
    clear hpl
    unfold uV uCells zeroU at hp
    go_enter Tryd.func14, Tryd.ntmps14
    go_wp2_with fail
    refine hp.mono ?_
    rintro e w1 ⟨rfl, hb1⟩
    go_wp2
    go_ret2
    exact ⟨rfl, hb1.alloc hb1.size _⟩
  | ok u =>
    rw [hpl] at hp
    unfold parseRes at hp
    have hg := parse_good hpl
    have hfew := hg.few
    clear hpl hg
    have HS := Lib.hid (fun w1 : World => refString_any u w1 hfew)
    have HE := Lib.hid (show normRes (.ok u) = .returned (.tuple #[.string (S (Url.str u)), .int .i64 0]) from rfl)
    rw [HE.out]
    generalize Url.str u = st at HS ⊢
    clear HE
    obtain ⟨sc, ho, po, pa, qu, ak⟩ := u
    unfold uV uCells at hp HS
    clear hfew
    go_enter Tryd.func14, Tryd.ntmps14
    go_wp2_with fail
    refine hp.mono ?_
    rintro e w1 ⟨rfl, hb1⟩
    have hb2 := hb1.alloc hb1.size (.cells #[.string (S sc), .string (S ho), .int .i64 (po : Int), .string (S pa), .string (S qu), .bool ak] 24)
    go_wp2_with fail
    refine (HS.out _).mono ?_
    rintro e w3 ⟨rfl, hb3⟩
    go_wp2
    go_ret2
    exact ⟨rfl, hb2.trans (hb3.mono hb2.size)⟩

theorem parseRes_two (r : Except Nat Url.U) : ∃ (u : Url.U) (n : Int), parseRes r = .returned (.tuple #[uV u, .int .i64 n]) := by
  cases r with
  | ok u => exact ⟨u, 0, rfl⟩
  | error n => exact ⟨zeroU, n, rfl⟩
theorem normRes_two (r : Except Nat Url.U) : ∃ (x : List UInt8) (n : Int), normRes r = .returned (.tuple #[.string (S x), .int .i64 n]) := by
  cases r with
  | ok u => exact ⟨Url.str u, 0, rfl⟩
  | error n => exact ⟨[], n, rfl⟩

set_option maxHeartbeats 1600000 in
theorem reads_url (HPP : RefParses) (l : List UInt8) (w : World) (he : Env w) (hl : (S l).size ≤ 400 ∨ (400 < (S l).size ∧ ¬ (S l).size ≤ 2000)) :
    Calls Tryd.prog 3 #[.string (S l)] w (AwakePost w) := by
  have H1 := Lib.hid (fun w' he' => parse_any l w' he')
  have H2 := Lib.hid (fun w' he' => HPP l w' he')
  have H3 := Lib.hid (fun w' he' => normal_url l w' he')
  have H4 := Lib.hid (fun w' he' => refNormal_of HPP l w' he')
  obtain ⟨u, un, hu⟩ := parseRes_two (Url.parse l)
  obtain ⟨x, xn, hx⟩ := normRes_two (Url.parse l)
  rw [hu] at H1 H2
  rw [hx] at H3 H4
  have heq := fun w' : World => run_eq_url w' u u
  rw [uEq_self] at heq
  have hgd := Tryd.guardU
  clear hu hx HPP
  obtain ⟨sc, ho, po, pa, qu, ak⟩ := u
  unfold uV uCells at H1 H2 heq
  have e1 : (un == un) = true := by simp
  have e2 : ((S x).toList == (S x).toList) = true := by simp
  have e3 : (xn == xn) = true := by simp
  rcases hl with h4 | ⟨h4, h2⟩
  all_goals
    go_enter Tryd.func3, Tryd.ntmps3
    go_wp2_with fail
    refine (awake_url w he).mono ?_
    rintro e w1 ⟨rfl, hb1⟩
    have he1 := he.next hb1
    go_wp2_with fail
    refine (H1.out w1 he1).mono ?_
    rintro e w2 ⟨rfl, hb2⟩
    have b2 := (below_next hb1 hb2)
    have b3 := b2.alloc b2.size (.cells #[.string (S sc), .string (S ho), .int .i64 (po : Int), .string (S pa), .string (S qu), .bool ak] 24)
    have he3 := he.next b3
    have B3 : BlkU (w2.alloc (.cells #[.string (S sc), .string (S ho), .int .i64 (po : Int), .string (S pa), .string (S qu), .bool ak] 24)) w2.heap.size ⟨sc, ho, po, pa, qu, ak⟩ := heap_alloc_new w2 _
    clear hb1 hb2 b2 he1
    go_wp2_with fail
    generalize w2.alloc (.cells #[.string (S sc), .string (S ho), .int .i64 (po : Int), .string (S pa), .string (S qu), .bool ak] 24) = w3 at b3 he3 B3
    refine (H2.out w3 he3).mono ?_
    rintro e w4 ⟨rfl, hb4⟩
    have B4 := B3.below hb4 (below_lt B3)
    have b4 := below_next b3 hb4
    have b5 := b4.alloc b4.size (.cells #[.string (S sc), .string (S ho), .int .i64 (po : Int), .string (S pa), .string (S qu), .bool ak] 24)
    have he5 := he.next b5
    have B5 := B4.below ((Below.refl w4.heap.size w4).alloc (Nat.le_refl _) (.cells #[.string (S sc), .string (S ho), .int .i64 (po : Int), .string (S pa), .string (S qu), .bool ak] 24)) (below_lt B4)
    have C5 : BlkU (w4.alloc (.cells #[.string (S sc), .string (S ho), .int .i64 (po : Int), .string (S pa), .string (S qu), .bool ak] 24)) w4.heap.size ⟨sc, ho, po, pa, qu, ak⟩ := heap_alloc_new w4 _
    clear B3 B4 b3 b4 hb4 he3
    go_wp2_with fail
    generalize w4.alloc (.cells #[.string (S sc), .string (S ho), .int .i64 (po : Int), .string (S pa), .string (S qu), .bool ak] 24) = w5 at b5 he5 B5 C5
    refine (H3.out w5 he5).mono ?_
    rintro e w6 ⟨rfl, hb6⟩
    have B6 := B5.below hb6 (below_lt B5)
    have C6 := C5.below hb6 (below_lt C5)
    have he6 := he5.next hb6
    have b6 := below_next b5 hb6
    clear B5 C5 he5 hb6 b5
    go_wp2_with fail
    refine (H4.out w6 he6).mono ?_
    rintro e w7 ⟨rfl, hb7⟩
    have B7 := B6.below hb7 (below_lt B6)
    have C7 := C6.below hb7 (below_lt C6)
    have b7 := below_next b6 hb7
    clear B6 C6 he6 hb7 b6
    have c0 := B7.c0
    have c1 := B7.c1
    have c2 := B7.c2
    have c3 := B7.c3
    have c4 := B7.c4
    have c5 := B7.c5
    have d0 := C7.c0
    have d1 := C7.c1
    have d2 := C7.c2
    have d3 := C7.c3
    have d4 := C7.c4
    have d5 := C7.c5
    go_wp2
    go_ret
    exact ⟨rfl, b7⟩

theorem urlReads_of (HPP : RefParses) (s : ByteArray) (w : World) (he : Env w) : Calls Tryd.prog 3 #[.string s] w (AwakePost w) := by
  obtain ⟨l, hl⟩ : ∃ l, l = s.data.toList := ⟨_, rfl⟩
  have hsl : s = S l := by rw [hl]; rfl
  clear hl
  subst hsl
  by_cases h : 400 < (S l).size ∧ (S l).size ≤ 2000
  · obtain ⟨h1, h2⟩ := h
    go_enter Tryd.func3, Tryd.ntmps3
    go_wp2_with fail
    refine (awake_url w he).mono ?_
    rintro e w1 ⟨rfl, hb1⟩
    go_wp2
    go_ret
    exact ⟨rfl, hb1⟩
  · exact reads_url HPP l w he (by omega)
end Go.Proofs.YtbpeohadgplaaaaDoor
