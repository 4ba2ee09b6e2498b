/- What the document's own String and Add of URLs answer, for any URL of texts of at most 2^30 bytes and a port from 0 on. -/
import Derived.Test.YtbpeohadgplaaaaDoorUrlF
namespace Go.Proofs.YtbpeohadgplaaaaDoor
set_option maxRecDepth 8000
open Go.RowKit

/-- The cells of a URL, at block b, in a world behind w. -/
def UAt (w : World) (b : Nat) (w' : World) : Prop := Below w.heap.size w w' ∧ b < w'.heap.size
theorem UAt.drew {w w' : World} {b : Nat} (h : UAt w b w') : UAt w b w'.drew := ⟨h.1.trans ⟨rfl, rfl, rfl, Nat.le_refl _, fun _ _ => rfl⟩, h.2⟩
theorem UAt.call {w w' w'' : World} {b : Nat} (h : UAt w b w') (hb : Below w'.heap.size w' w'') : UAt w b w'' :=
  ⟨h.1.trans (hb.mono h.1.size), Nat.lt_of_lt_of_le h.2 hb.size⟩
theorem UAt.cell {w w' w'' : World} {b i : Nat} {v : Value} (h : UAt w b w') (hb : Below w'.heap.size w' w'') (hc : w'.cell? ⟨b, i, none⟩ = some v) : w''.cell? ⟨b, i, none⟩ = some v :=
  (hb.cell (p := ⟨b, i, none⟩) h.2).trans hc

theorem str_no {u : Url.U} (h : u.ask = false) : Url.origin u ++ u.path = Url.str u := by
  unfold Url.str
  rw [if_neg (by rw [h]; simp)]
  simp
theorem str_ask {u : Url.U} (h : u.ask = true) : Url.origin u ++ u.path ++ [63] ++ u.query = Url.str u := by
  unfold Url.str
  rw [if_pos h]
  simp
theorem origin_len (u : Url.U) (h : Few u) : (Url.origin u).length ≤ u.scheme.length + u.host.length + 23 := by
  have := digits_len20 u.port h.port
  unfold Url.origin
  simp only [List.length_append, Url.sep, List.length_cons, List.length_nil]
  split
  · simp; omega
  · simp; omega

set_option maxHeartbeats 800000 in
theorem refString_any (u : Url.U) (w : World) (hu : Few u) :
    Calls Tryd.prog 51 #[uV u] w (Told w (.returned (.string (S (Url.str u))))) := by
  obtain ⟨h1, h2, h3, h4, h5⟩ := id hu
  have hol := origin_len u hu
  have hO := fun w' => refOrigin_any u w' hu
  have HS := Lib.hid (str_no (u := u))
  have HA := Lib.hid (str_ask (u := u))
  obtain ⟨o, ho⟩ : ∃ o, o = Url.origin u := ⟨_, rfl⟩
  rw [← ho] at hol hO HS HA
  clear ho hu
  obtain ⟨sc, hst, po, pa, qu, ak⟩ := u
  simp only at h1 h2 h3 h4 h5 hol HS HA
  unfold uV uCells at hO ⊢
  simp only at hO ⊢
  have a1 := fun w' : World => run_add_S' w' o pa (by omega)
  go_enter Tryd.func51, Tryd.ntmps51
  go_wp2_with fail
  have hU : UAt w w.heap.size (w.alloc (.cells #[.string (S sc), .string (S hst), .int .i64 po, .string (S pa), .string (S qu), .bool ak] 24)) := ⟨(Below.refl _ _).alloc (Nat.le_refl _) _, by simp⟩
  go_region_held3 (fun w' => w'.cell? ⟨w.heap.size, 0, none⟩ = some (.string (S sc)) ∧ w'.cell? ⟨w.heap.size, 1, none⟩ = some (.string (S hst)) ∧ w'.cell? ⟨w.heap.size, 2, none⟩ = some (.int .i64 po) ∧ w'.cell? ⟨w.heap.size, 3, none⟩ = some (.string (S pa)) ∧ w'.cell? ⟨w.heap.size, 4, none⟩ = some (.string (S qu)) ∧ w'.cell? ⟨w.heap.size, 5, none⟩ = some (.bool ak) ∧ UAt w w.heap.size w')
    (first
      | (refine ⟨?_, ?_, ?_, ?_, ?_, ?_, UAt.drew hU⟩ <;> simp [go_sem])
      | (go_split_ands
         refine ⟨UAt.cell ‹UAt _ _ _› hb ‹_›, UAt.cell ‹UAt _ _ _› hb ‹_›, UAt.cell ‹UAt _ _ _› hb ‹_›, UAt.cell ‹UAt _ _ _› hb ‹_›, UAt.cell ‹UAt _ _ _› hb ‹_›, UAt.cell ‹UAt _ _ _› hb ‹_›, UAt.call ‹UAt _ _ _› hb⟩))
    (first | (go_at_call 82; refine (hO _).mono ?_; rintro e w' ⟨rfl, hb⟩))
  rename_i hH
  obtain ⟨_, _, _, _, c4, c5, hU2⟩ := hH
  clear hb hU
  cases ak with
  | false =>
    go_wp2
    go_ret
    exact ⟨ret_string (HS.out trivial), hU2.1⟩
  | true =>
    obtain ⟨o1, ho1⟩ : ∃ o1, o1 = o ++ pa := ⟨_, rfl⟩
    have hl1 : o1.length = o.length + pa.length := by rw [ho1]; simp
    rw [← ho1] at HA ⊢
    have a2 : ∀ w' : World, (Op.stringOp .add (S o1) ⟨#[63]⟩).run Tryd.prog w' = .ok (.string (S (o1 ++ [63]))) w' := fun w' => run_add_S' w' o1 [63] (by simp; omega)
    obtain ⟨o2, ho2⟩ : ∃ o2, o2 = o1 ++ [63] := ⟨_, rfl⟩
    have hl2 : o2.length = o1.length + 1 := by rw [ho2]; simp
    rw [← ho2] at a2 HA
    clear ho1 ho2
    have a3 := fun w' : World => run_add_S' w' o2 qu (by omega)
    go_wp2
    go_ret
    exact ⟨ret_string (HA.out trivial), hU2.1⟩
end Go.Proofs.YtbpeohadgplaaaaDoor
