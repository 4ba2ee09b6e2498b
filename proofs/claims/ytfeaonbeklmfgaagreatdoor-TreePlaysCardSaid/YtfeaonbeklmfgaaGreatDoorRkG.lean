/- Records held against each other, and the document's Few. No condition. -/
import Derived.Test.YtfeaonbeklmfgaaGreatDoorRkF
namespace Go.Proofs.YtfeaonbeklmfgaaGreatDoor
set_option maxRecDepth 8000
open Go.RowKit

namespace Rk
def few (r : R) : Bool := decide (r.name.length ≤ 60 ∧ r.parent.length ≤ 60 ∧ r.user.length ≤ 120 ∧ r.service.length ≤ 120 ∧ r.url.length ≤ 120)
structure Few (r : R) : Prop where
  nm : r.name.length ≤ 60
  pa : r.parent.length ≤ 60
  us : r.user.length ≤ 120
  sv : r.service.length ≤ 120
  ur : r.url.length ≤ 120
theorem few_of {r : R} (h : few r = true) : Few r := by
  obtain ⟨h1, h2, h3, h4, h5⟩ := of_decide_eq_true h
  exact ⟨h1, h2, h3, h4, h5⟩
theorem eq_iff (a b : R) : a = b ↔ (a.kind = b.kind ∧ a.name = b.name ∧ a.parent = b.parent ∧ a.user = b.user ∧ a.service = b.service ∧ a.url = b.url ∧ a.made = b.made ∧ a.used = b.used ∧ a.uses = b.uses ∧ a.fresh = b.fresh) := by
  cases a
  cases b
  simp
end Rk
theorem S_beq (a b : List UInt8) : ((S a).toList == (S b).toList) = decide (a = b) := by
  rw [S_list, S_list]
  by_cases h : a = b <;> simp [h]
set_option maxHeartbeats 800000 in
theorem recFew_any (r : Rk.R) (w : World) :
    Calls Tryz.prog 37 #[recV r] w fun e w' => e = .returned (.bool (Rk.few r)) ∧ Below w.heap.size w w' := by
  have HC := recAt_alloc w r
  have HR : Hid (Rk.few r = decide (r.name.length ≤ 60 ∧ r.parent.length ≤ 60 ∧ r.user.length ≤ 120 ∧ r.service.length ≤ 120 ∧ r.url.length ≤ 120)) := Lib.hid rfl
  generalize Rk.few r = q at HR ⊢
  obtain ⟨kind, name, parent, user, service, url, made, used, uses, fresh⟩ := r
  unfold recCs at HC
  dsimp only at HC HR
  unfold recV
  dsimp only
  obtain ⟨wb, hwb⟩ : ∃ wb, wb = w.alloc (.cells #[.int .i64 kind, .string (S name), .string (S parent), .string (S user), .string (S service), .string (S url), .int .i64 made, .int .i64 used, .int .i64 uses, .bool fresh] 30) := ⟨_, rfl⟩
  have hbb : Below w.heap.size w wb := by rw [hwb]; exact (Below.refl _ _).alloc (Nat.le_refl _) _
  have hsz : wb.heap.size = w.heap.size + 1 := by rw [hwb]; simp
  rw [← hwb, ← hsz] at HC
  have sn : (S name).size = name.length := rfl
  have sp : (S parent).size = parent.length := rfl
  have su : (S user).size = user.length := rfl
  have ss : (S service).size = service.length := rfl
  have sl : (S url).size = url.length := rfl
  obtain ⟨-, c1, c2, c3, c4, c5, -, -, -, -⟩ := HC.out wb (Below.refl _ _)
  go_enter Tryz.func37, Tryz.ntmps37
  go_upto_region 1 with fail
  rw [← hwb]
  clear hwb hsz HC
  go_wp2_with fail
  all_goals
    go_ret
    refine ⟨ret_bool ?_, hbb⟩
    rw [HR.out, Bool.eq_iff_iff]
    simp only [sn, sp, su, ss, sl] at *
    simp
    omega
theorem encV_cases (r : Rk.R) : ∃ (x : List UInt8) (e : Int), encV r = .tuple #[.string (S x), .int .i64 e] ∧ ((Rk.right r = true ∧ x = Rk.enc r ∧ e = 0) ∨ (Rk.right r = false ∧ x = [] ∧ e = 1)) := by
  unfold encV
  cases Rk.right r with
  | true => exact ⟨_, _, rfl, .inl ⟨rfl, rfl, rfl⟩⟩
  | false => exact ⟨[], 1, rfl, .inr ⟨rfl, rfl, rfl⟩⟩
end Go.Proofs.YtfeaonbeklmfgaaGreatDoor
