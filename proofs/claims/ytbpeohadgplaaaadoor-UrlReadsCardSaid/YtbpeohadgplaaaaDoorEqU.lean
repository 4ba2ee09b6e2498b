/- That two URLs are held against each other field by field; no condition. -/
import Derived.Test.YtbpeohadgplaaaaDoorVm
import Derived.Laws.StructEq
namespace Go.Proofs.YtbpeohadgplaaaaDoor
set_option maxRecDepth 8000
open Go.RowKit

def uEq (u v : Url.U) : Bool := u.scheme == v.scheme && (u.host == v.host && (u.port == v.port && (u.path == v.path && (u.query == v.query && u.ask == v.ask))))
theorem uEq_iff (u v : Url.U) : uEq u v = true ↔ u = v := by
  obtain ⟨a, b, c, d, e, f⟩ := u
  obtain ⟨a', b', c', d', e', f'⟩ := v
  unfold uEq
  simp
theorem uEq_self (u : Url.U) : uEq u u = true := (uEq_iff u u).2 rfl
theorem uEq_ne {u v : Url.U} (h : u ≠ v) : uEq u v = false := by
  cases hb : uEq u v with
  | false => rfl
  | true => exact absurd ((uEq_iff u v).1 hb) h

theorem Tryd.fieldsU : Tryd.prog.underlying 24 = some (.struct (Tryd.prog.fieldsOf 24)) := by kernel_rfl
theorem Tryd.heldU : Tryd.prog.stoodInHeld 24 = false := by kernel_rfl
theorem Tryd.guardU : Tryd.prog.eqGuardType Tryd.prog.depth 24 = false := by kernel_rfl

theorem run_equal_url (w : World) (u v : Url.U) : (Op.equalIn 10000 24 (uV u) (uV v)).run Tryd.prog w = .ok (uEq u v) w := by
  unfold uV uCells
  rw [run_equalIn_struct w 9999 24 _ _ Tryd.fieldsU Tryd.heldU]
  obtain ⟨a, b, c, d, e, f⟩ := u
  obtain ⟨a', b', c', d', e', f'⟩ := v
  unfold uEq
  have hS := S_list
  have hc : ((c : Int) == (c' : Int)) = (c == c') := by
    rw [Bool.eq_iff_iff]
    simp
    omega
  simp [Program.fieldsOf, Tryd.underlying24, go_sem, hS, hc]
  by_cases h1 : a = a'
  · by_cases h2 : b = b'
    · by_cases h3 : c = c'
      · by_cases h4 : d = d'
        · by_cases h5 : e = e'
          · by_cases h6 : f = f'
            · simp [h1, h2, h3, h4, h5, h6]
            · simp [h1, h2, h3, h4, h5, h6]
          · simp [h1, h2, h3, h4, h5]
        · simp [h1, h2, h3, h4]
      · simp [h1, h2, h3]
    · simp [h1, h2]
  · simp [h1]
theorem run_eq_url (w : World) (u v : Url.U) : (binOp .eql 24 (uV u) (uV v)).run Tryd.prog w = .ok (.bool (uEq u v)) w := by
  have h := run_equal_url w u v
  unfold uV at h ⊢
  rw [run_eql_struct, h]
  rfl
theorem run_ne_url (w : World) (u v : Url.U) : (binOp .neq 24 (uV u) (uV v)).run Tryd.prog w = .ok (.bool (!uEq u v)) w := by
  have h := run_equal_url w u v
  unfold uV at h ⊢
  rw [run_neq_struct, h]
  rfl
end Go.Proofs.YtbpeohadgplaaaaDoor
