/- What package cookie's isUnder, New, Put, All and Pairs answer, for any jar of at most 20 cookies and any texts of at most 2^30 bytes. -/
import Derived.Test.YtpdilhnbbokipaaDoorCm
namespace Go.Proofs.YtpdilhnbbokipaaDoor
set_option maxRecDepth 8000
open Go.RowKit

theorem hasSuffix_47 (l : List UInt8) : Lib.hasSuffix l [47] = (l.getLast? == some 47) := by
  unfold Lib.hasSuffix List.isSuffixOf
  rw [← List.head?_reverse]
  cases l.reverse with
  | nil => rfl
  | cons c r =>
    simp [List.isPrefixOf]
    rw [Bool.eq_iff_iff, beq_iff_eq, beq_iff_eq]
    exact eq_comm
theorem hasSuffix_to (l : List UInt8) (w : World) (hl : l.length ≤ 1073741824) :
    Calls Tryd.prog 66 #[.string (S l), .string ⟨#[47]⟩] w fun e w' => e = .returned (.bool (l.getLast? == some 47)) ∧ w = w' :=
  (Tryd.strings_HasSuffix (S l) ⟨#[47]⟩ w (by have : (S l).size = l.length := rfl; omega)).mono fun e w' ⟨he, hw⟩ => ⟨by rw [he, ← hasSuffix_47]; rfl, hw.symm⟩
theorem cutPrefix_yes (l p : List UInt8) (w : World) (h : p.isPrefixOf l = true) :
    Calls Tryd.prog 65 #[.string (S l), .string (S p)] w fun e w' => e = .returned (.tuple #[.string (S (l.drop p.length)), .bool true]) ∧ w = w' :=
  (Tryd.strings_CutPrefix (S l) (S p) w).mono fun e w' ⟨he, hw⟩ => ⟨by
    have h1 : Lib.hasPrefix l p = true := h
    have h2 : Lib.trimPrefix l p = l.drop p.length := by unfold Lib.trimPrefix; rw [if_pos h1]
    rw [he, S_toList, S_toList, h1, h2]; rfl, hw.symm⟩
theorem cutPrefix_no (l p : List UInt8) (w : World) (h : p.isPrefixOf l = false) :
    Calls Tryd.prog 65 #[.string (S l), .string (S p)] w fun e w' => e = .returned (.tuple #[.string (S l), .bool false]) ∧ w = w' :=
  (Tryd.strings_CutPrefix (S l) (S p) w).mono fun e w' ⟨he, hw⟩ => ⟨by
    have h1 : Lib.hasPrefix l p = false := h
    have h2 : Lib.trimPrefix l p = l := by unfold Lib.trimPrefix; rw [if_neg (by rw [h1]; simp)]
    rw [he, S_toList, S_toList, h1, h2]; rfl, hw.symm⟩

set_option maxHeartbeats 800000 in
theorem isUnder_any (path top : List UInt8) (w : World) (ht : top.length ≤ 1073741824) :
    Calls Tryd.prog 48 #[.string (S path), .string (S top)] w fun e w' => e = .returned (.bool (Ck.under path top)) ∧ w = w' := by
  have hSuf := fun w' => hasSuffix_to top w' ht
  cases hp : top.isPrefixOf path with
  | false =>
    have HU := Lib.hid (show Ck.under path top = false by unfold Ck.under; rw [hp]; rfl)
    have hC := fun w' => cutPrefix_no path top w' hp
    clear hp
    go_enter Tryd.func48, Tryd.ntmps48
    go_wp2_with (go_at_call 65; refine (hC _).mono ?_; rintro e w' ⟨rfl, rfl⟩)
    go_ret
    exact ⟨ret_bool HU.out.symm, rfl⟩
  | true =>
    have HU := Lib.hid (show Ck.under path top = ((path.drop top.length).isEmpty || (top.getLast? == some 47) || ((path.drop top.length).head? == some 47)) by unfold Ck.under; rw [hp]; rfl)
    have hC := fun w' => cutPrefix_yes path top w' hp
    clear hp
    obtain ⟨r, hr⟩ : ∃ r, r = path.drop top.length := ⟨_, rfl⟩
    rw [← hr] at HU hC
    clear hr
    have hPre := fun w' => hasPrefix_to r w'
    have hE := S_empty r
    cases he : r.isEmpty with
    | true =>
      rw [he] at HU hE
      clear he
      go_enter Tryd.func48, Tryd.ntmps48
      go_wp2_with (go_at_call 65; refine (hC _).mono ?_; rintro e w' ⟨rfl, rfl⟩)
      go_ret
      exact ⟨ret_bool (by rw [HU.out]; simp), rfl⟩
    | false =>
      rw [he] at HU hE
      clear he
      cases hs : (top.getLast? == some 47) with
      | true =>
        rw [hs] at HU hSuf
        clear hs
        go_enter Tryd.func48, Tryd.ntmps48
        go_wp2_with (first
          | (go_at_call 65; refine (hC _).mono ?_; rintro e w' ⟨rfl, rfl⟩)
          | (go_at_call 66; refine (hSuf _).mono ?_; rintro e w' ⟨rfl, rfl⟩))
        go_ret
        exact ⟨ret_bool (by rw [HU.out]; simp), rfl⟩
      | false =>
        rw [hs] at HU hSuf
        clear hs
        cases hh : (r.head? == some 47) with
        | true =>
          rw [hh] at HU hPre
          clear hh
          go_enter Tryd.func48, Tryd.ntmps48
          go_wp2_with (first
            | (go_at_call 65; refine (hC _).mono ?_; rintro e w' ⟨rfl, rfl⟩)
            | (go_at_call 66; refine (hSuf _).mono ?_; rintro e w' ⟨rfl, rfl⟩)
            | (go_at_call 44; refine (hPre _).mono ?_; rintro e w' ⟨rfl, rfl⟩))
          go_ret
          exact ⟨ret_bool (by rw [HU.out]; simp), rfl⟩
        | false =>
          rw [hh] at HU hPre
          clear hh
          go_enter Tryd.func48, Tryd.ntmps48
          go_wp2_with (first
            | (go_at_call 65; refine (hC _).mono ?_; rintro e w' ⟨rfl, rfl⟩)
            | (go_at_call 66; refine (hSuf _).mono ?_; rintro e w' ⟨rfl, rfl⟩)
            | (go_at_call 44; refine (hPre _).mono ?_; rintro e w' ⟨rfl, rfl⟩))
          go_ret
          exact ⟨ret_bool (by rw [HU.out]; simp), rfl⟩

/-- The jar in block b has the cookies l. -/
def JarAt (w : World) (b : Nat) (l : List Ck.C) : Prop := ∃ v, w.heap[b]? = some (.cells #[v] 74 (0, 0)) ∧ CReads w w.heap.size v l
/-- But for block b all that was there is as it was. -/
def But (b : Nat) (w w' : World) : Prop := ∃ w1, Below w.heap.size w w1 ∧ (w' = w1 ∨ ∃ u, w' = w1.setCell ⟨b, 0, none⟩ u)

theorem But.of {b : Nat} {w w' : World} (h : Below w.heap.size w w') : But b w w' := ⟨w', h, .inl rfl⟩
theorem But.below {b B : Nat} {w w' : World} (h : But b w w') (hB : B ≤ b) (hw : B ≤ w.heap.size) : Below B w w' := by
  obtain ⟨w1, h1, rfl | ⟨u, rfl⟩⟩ := h
  · exact h1.mono hw
  · exact (h1.mono hw).setCell (p := ⟨b, 0, none⟩) hB u
theorem But.size {b : Nat} {w w' : World} (h : But b w w') : w.heap.size ≤ w'.heap.size := by
  obtain ⟨w1, h1, rfl | ⟨u, rfl⟩⟩ := h
  · exact h1.size
  · rw [World.size_setCell]; exact h1.size
theorem But.block {b : Nat} {w w' : World} (h : But b w w') (g : Nat) (hg : g < w.heap.size) (hne : g ≠ b) : w'.heap[g]? = w.heap[g]? := by
  obtain ⟨w1, h1, rfl | ⟨u, rfl⟩⟩ := h
  · exact h1.block g hg
  · rw [Below.heap_setCell w1 ⟨b, 0, none⟩ u g hne]
    exact h1.block g hg
theorem own_but {b : Nat} {w w' : World} {base : Nat} {e : TypeId} {size : Nat} {v : Value} {n : Nat} {xs : List Value} {o : Array Value} {t : TypeId} (h : w.ownsRow base e size v n xs) (hb : But b w w') (hbk : w.heap[b]? = some (.cells o t (0, 0))) (hte : t ≠ e) : w'.ownsRow base e size v n xs := by
  refine ⟨h.1, ?_⟩
  rcases h.2 with h1 | ⟨g, cap, cur, hv, hbase, hg, hr⟩
  · exact .inl h1
  · refine .inr ⟨g, cap, cur, hv, hbase, ?_, hr⟩
    rw [hb.block g (lt_of_blk hg) ?_]
    · exact hg
    · rintro rfl
      rw [hbk] at hg
      simp at hg
      exact hte hg.2
end Go.Proofs.YtpdilhnbbokipaaDoor
