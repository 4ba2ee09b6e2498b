/- What the document's own Origin, String and Add of URLs answer, for any URL of texts of at most 2^30 bytes and a port from 0 on. -/
import Derived.Test.YtbpeohadgplaaaaDoorUrlE
namespace Go.Proofs.YtbpeohadgplaaaaDoor
set_option maxRecDepth 8000
open Go.RowKit

def uCells (u : Url.U) : Array Value := #[.string (S u.scheme), .string (S u.host), .int .i64 (u.port : Int), .string (S u.path), .string (S u.query), .bool u.ask]
def uV (u : Url.U) : Value := .agg (uCells u)
structure Few (u : Url.U) : Prop where
  scheme : u.scheme.length ≤ 1073741824
  host : u.host.length ≤ 1073741824
  port : u.port ≤ 9223372036854775807
  path : u.path.length ≤ 1073741824
  query : u.query.length ≤ 1073741824

theorem digits_len : ∀ (k n : Nat), n < 10 ^ (k + 1) → (Url.digits n).length ≤ k + 1
  | 0, n, h => by
    rw [digits_few (by omega)]
    simp
  | k + 1, n, h => by
    by_cases h9 : n ≤ 9
    · rw [digits_few h9]
      simp
    · rw [digits_more h9]
      have := digits_len k (n / 10) (by rw [Nat.pow_succ] at h; omega)
      simp
      omega
theorem digits_len20 (n : Nat) (h : n ≤ 9223372036854775807) : (Url.digits n).length ≤ 19 := digits_len 18 n (by omega)

theorem origin_none {u : Url.U} (h : u.port = 0) : u.scheme ++ [58, 47, 47] ++ u.host = Url.origin u := by
  unfold Url.origin
  rw [if_pos h]
  simp [Url.sep]
theorem origin_some {u : Url.U} (h : u.port ≠ 0) : u.scheme ++ [58, 47, 47] ++ u.host ++ [58] ++ Url.digits u.port = Url.origin u := by
  unfold Url.origin
  rw [if_neg h]
  simp [Url.sep]

set_option maxHeartbeats 400000 in
theorem refOrigin_any (u : Url.U) (w : World) (hu : Few u) :
    Calls Tryd.prog 82 #[uV u] w (Told w (.returned (.string (S (Url.origin u))))) := by
  obtain ⟨h1, h2, h3, h4, h5⟩ := hu
  by_cases hp : u.port = 0
  · have HR := Lib.hid (origin_none hp)
    obtain ⟨sc, ho, po, pa, qu, ak⟩ := u
    simp only at h1 h2 h3 h4 h5 hp HR
    unfold uV uCells
    subst hp
    have a1 : ∀ w' : World, (Op.stringOp .add (S sc) ⟨#[58, 47, 47]⟩).run Tryd.prog w' = .ok (.string (S (sc ++ [58, 47, 47]))) w' := fun w' => run_add_S' w' sc [58, 47, 47] (by simp; omega)
    obtain ⟨o1, ho1⟩ : ∃ o1, o1 = sc ++ [58, 47, 47] := ⟨_, rfl⟩
    have hl1 : o1.length = sc.length + 3 := by rw [ho1]; simp
    rw [← ho1] at a1 HR
    clear ho1
    have a2 := fun w' : World => run_add_S' w' o1 ho (by omega)
    go_enter Tryd.func82, Tryd.ntmps82
    go_wp2
    go_ret
    exact ⟨ret_string HR.out, (Below.refl _ _).alloc (Nat.le_refl _) _⟩
  · have HR := Lib.hid (origin_some hp)
    obtain ⟨sc, ho, po, pa, qu, ak⟩ := u
    simp only at h1 h2 h3 h4 h5 hp HR
    unfold uV uCells
    have a1 : ∀ w' : World, (Op.stringOp .add (S sc) ⟨#[58, 47, 47]⟩).run Tryd.prog w' = .ok (.string (S (sc ++ [58, 47, 47]))) w' := fun w' => run_add_S' w' sc [58, 47, 47] (by simp; omega)
    obtain ⟨o1, ho1⟩ : ∃ o1, o1 = sc ++ [58, 47, 47] := ⟨_, rfl⟩
    have hl1 : o1.length = sc.length + 3 := by rw [ho1]; simp
    rw [← ho1] at a1 HR
    clear ho1
    have a2 := fun w' : World => run_add_S' w' o1 ho (by omega)
    obtain ⟨o2, ho2⟩ : ∃ o2, o2 = o1 ++ ho := ⟨_, rfl⟩
    have hl2 : o2.length = o1.length + ho.length := by rw [ho2]; simp
    rw [← ho2] at a2 HR
    clear ho2
    have a3 : ∀ w' : World, (Op.stringOp .add (S o2) ⟨#[58]⟩).run Tryd.prog w' = .ok (.string (S (o2 ++ [58]))) w' := fun w' => run_add_S' w' o2 [58] (by simp; omega)
    obtain ⟨o3, ho3⟩ : ∃ o3, o3 = o2 ++ [58] := ⟨_, rfl⟩
    have hl3 : o3.length = o2.length + 1 := by rw [ho3]; simp
    rw [← ho3] at a3 HR
    clear ho3
    have hdl := digits_len20 po h3
    have a4 := fun w' : World => run_add_S' w' o3 (Url.digits po) (by omega)
    have hp' : ((po : Int) != 0) = true := by simp; omega
    go_enter Tryd.func82, Tryd.ntmps82
    go_wp2_with (go_at_call 107; refine (refDigits_any po _ h3).mono ?_; rintro e w' ⟨rfl, hb⟩)
    go_ret
    exact ⟨ret_string HR.out, ((Below.refl _ _).alloc (Nat.le_refl _) _).trans (hb.mono (by simp))⟩
end Go.Proofs.YtbpeohadgplaaaaDoor
