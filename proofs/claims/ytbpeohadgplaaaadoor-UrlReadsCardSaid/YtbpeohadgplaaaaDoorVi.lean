/- What package url's String answers, for any URL of texts of at most 2^30 bytes and a port from 0 on, where the library's table of powers reads as its text lays it. -/
import Derived.Test.YtbpeohadgplaaaaDoorVh
namespace Go.Proofs.YtbpeohadgplaaaaDoor
set_option maxRecDepth 8000
open Go.RowKit

set_option maxHeartbeats 800000 in
theorem string_any (u : Url.U) (w : World) (he : Env w) (hu : Few u) :
    Calls Tryd.prog 50 #[uV u] w (Told w (.returned (.string (S (Url.str u))))) := by
  obtain ⟨h1, h2, h3, h4, h5⟩ := id hu
  have hol := origin_len u hu
  have HO := Lib.hid (fun w' => fun he' : Env w' => origin_any u w' he' hu)
  have HS := Lib.hid (str_no (u := u))
  have HA := Lib.hid (str_ask (u := u))
  obtain ⟨o, ho⟩ : ∃ o, o = Url.origin u := ⟨_, rfl⟩
  rw [← ho] at hol HO HS HA
  clear ho hu
  obtain ⟨sc, hst, po, pa, qu, ak⟩ := u
  simp only at h1 h2 h3 h4 h5 hol HS HA
  unfold uV uCells at HO ⊢
  simp only at HO ⊢
  have a1 := fun w' : World => run_add_S' w' o pa (by omega)
  go_enter Tryd.func50, Tryd.ntmps50
  go_wp2_with fail
  have hU : UAt w w.heap.size (w.alloc (.cells #[.string (S sc), .string (S hst), .int .i64 po, .string (S pa), .string (S qu), .bool ak] 24)) := ⟨(Below.refl _ _).alloc (Nat.le_refl _) _, by simp⟩
  go_region_held3 (fun w' => w'.cell? ⟨w.heap.size, 0, none⟩ = some (.string (S sc)) ∧ w'.cell? ⟨w.heap.size, 1, none⟩ = some (.string (S hst)) ∧ w'.cell? ⟨w.heap.size, 2, none⟩ = some (.int .i64 po) ∧ w'.cell? ⟨w.heap.size, 3, none⟩ = some (.string (S pa)) ∧ w'.cell? ⟨w.heap.size, 4, none⟩ = some (.string (S qu)) ∧ w'.cell? ⟨w.heap.size, 5, none⟩ = some (.bool ak) ∧ UAt w w.heap.size w')
    (first
      | (refine ⟨?_, ?_, ?_, ?_, ?_, ?_, UAt.drew hU⟩ <;> simp [go_sem])
      | (go_split_ands
         refine ⟨UAt.cell ‹UAt _ _ _› hb ‹_›, UAt.cell ‹UAt _ _ _› hb ‹_›, UAt.cell ‹UAt _ _ _› hb ‹_›, UAt.cell ‹UAt _ _ _› hb ‹_›, UAt.cell ‹UAt _ _ _› hb ‹_›, UAt.cell ‹UAt _ _ _› hb ‹_›, UAt.call ‹UAt _ _ _› hb⟩))
    (first | (go_at_call 81; go_split_ands; refine (HO.out _ (he.next (‹UAt _ _ _›).1)).mono ?_; rintro e w' ⟨rfl, hb⟩))
  rename_i hH
  obtain ⟨_, _, _, _, c4, c5, hU2⟩ := hH
  clear hb hU
  cases ak with
  | false =>
    go_wp2
    go_ret
    exact ⟨ret_string (HS.out trivial), hU2.1⟩
  | true =>
    obtain ⟨o1, ho1⟩ : ∃ o1, o1 = o ++ pa := ⟨_, rfl⟩
    have hl1 : o1.length = o.length + pa.length := by rw [ho1]; simp
    rw [← ho1] at HA ⊢
    rw [List.append_assoc] at HA
    have a2 : ∀ w' : World, (Op.stringOp .add ⟨#[63]⟩ (S qu)).run Tryd.prog w' = .ok (.string (S ([63] ++ qu))) w' := fun w' => run_add_S' w' [63] qu (by simp; omega)
    obtain ⟨o2, ho2⟩ : ∃ o2, o2 = [63] ++ qu := ⟨_, rfl⟩
    have hl2 : o2.length = qu.length + 1 := by rw [ho2]; simp
    rw [← ho2] at a2 HA
    clear ho1 ho2
    have a3 := fun w' : World => run_add_S' w' o1 o2 (by omega)
    go_wp2
    go_ret
    exact ⟨ret_string (HA.out trivial), hU2.1⟩
end Go.Proofs.YtbpeohadgplaaaaDoor
