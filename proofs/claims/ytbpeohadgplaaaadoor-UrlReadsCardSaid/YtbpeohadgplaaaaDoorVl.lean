/- What package url's Normal and Pairs answer, for any text, where the variables that they reach read as their texts lay them. -/
import Derived.Test.YtbpeohadgplaaaaDoorVk
import Derived.Test.YtbpeohadgplaaaaDoorGood
namespace Go.Proofs.YtbpeohadgplaaaaDoor
set_option maxRecDepth 8000
open Go.RowKit

def normRes (r : Except Nat Url.U) : Ending :=
  match r with
  | .ok u => .returned (.tuple #[.string (S (Url.str u)), .int .i64 0])
  | .error n => .returned (.tuple #[.string ⟨#[]⟩, .int .i64 n])

theorem err_ne {l : List UInt8} {n : Nat} (h : Url.parse l = .error n) : ((n : Int) != 0) = true := by
  have : n ≠ 0 := by
    rintro rfl
    by_cases hl : 2000 < l.length
    · unfold Url.parse at h
      rw [if_pos hl] at h
      cases h
    · cases hsc : Url.schemeOf l with
      | none => rw [parse_scheme hl hsc] at h; cases h
      | some x =>
        obtain ⟨sc, r⟩ := x
        cases hh : hostOk (r.takeWhile Url.noDelim) with
        | false => rw [parse_host hl hsc hh] at h; cases h
        | true =>
          cases hp : portPart (r.dropWhile Url.noDelim) with
          | none => rw [parse_port hl hsc hh hp] at h; cases h
          | some x =>
            obtain ⟨n, r2⟩ := x
            rw [parse_tail hl hsc hh hp] at h
            unfold Url.tail3 at h
            split at h
            · cases h
            · split at h
              · cases h
              · split at h <;> cases h
  simp
  omega

set_option maxHeartbeats 400000 in
theorem normal_url (l : List UInt8) (w : World) (he : Env w) :
    Calls Tryd.prog 13 #[.string (S l)] w (Told w (normRes (Url.parse l))) := by
  have hp := parse_any l w he
  cases hpl : Url.parse l with
  | error n =>
    rw [hpl] at hp
    unfold parseRes at hp
    have hne := err_ne hpl
    clear hpl
    unfold uV uCells zeroU at hp
    go_enter Tryd.func13, Tryd.ntmps13
    go_wp2_with fail
    refine hp.mono ?_
    rintro e w1 ⟨rfl, hb1⟩
    go_wp2
    go_ret2
    exact ⟨rfl, hb1.alloc hb1.size _⟩
  | ok u =>
    rw [hpl] at hp
    unfold parseRes at hp
    have hg := parse_good hpl
    have hfew := hg.few
    clear hpl hg
    have HS := Lib.hid (fun w1 => fun he' : Env w1 => string_any u w1 he' hfew)
    have HE := Lib.hid (show normRes (.ok u) = .returned (.tuple #[.string (S (Url.str u)), .int .i64 0]) from rfl)
    rw [HE.out]
    generalize Url.str u = st at HS ⊢
    clear HE
    obtain ⟨sc, ho, po, pa, qu, ak⟩ := u
    unfold uV uCells at hp HS
    clear hfew
    go_enter Tryd.func13, Tryd.ntmps13
    go_wp2_with fail
    refine hp.mono ?_
    rintro e w1 ⟨rfl, hb1⟩
    have hb2 := hb1.alloc hb1.size (.cells #[.string (S sc), .string (S ho), .int .i64 (po : Int), .string (S pa), .string (S qu), .bool ak] 24)
    have he2 := he.next hb2
    go_wp2_with fail
    refine (HS.out _ he2).mono ?_
    rintro e w3 ⟨rfl, hb3⟩
    go_wp2
    go_ret2
    exact ⟨rfl, hb2.trans (hb3.mono hb2.size)⟩

theorem PRow.base {b b' : Nat} {w : World} {v : Value} {l : List Pct.PairL} (h : PRow b w v l) (hb : b' ≤ b) : PRow b' w v l := by
  obtain ⟨h1, h2⟩ := h
  refine ⟨h1, ?_⟩
  rcases h2 with h3 | ⟨g, cap, cur, h3, h4, h5⟩
  · exact .inl h3
  · exact .inr ⟨g, cap, cur, h3, Nat.le_trans hb h4, h5⟩

end Go.Proofs.YtbpeohadgplaaaaDoor
