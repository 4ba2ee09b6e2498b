/- What package cookie's Right and the document's Right and Few answer, for any cookie with texts of at most 2^30 bytes. -/
import Derived.Test.YtpdilhnbbokipaaDoorCc
import Derived.Test.YtpdilhnbbokipaaDoorCkC
namespace Go.Proofs.YtpdilhnbbokipaaDoor
set_option maxRecDepth 8000
open Go.RowKit

def cellsC (c : Ck.C) : List Value := [.string (S c.name), .string (S c.val), .string (S c.path), .int .i64 c.age, .bool c.sec, .bool c.http]
abbrev cV (c : Ck.C) : Value := .agg #[.string (S c.name), .string (S c.val), .string (S c.path), .int .i64 c.age, .bool c.sec, .bool c.http]
def Small (c : Ck.C) : Prop := c.name.length ≤ 1073741824 ∧ c.val.length ≤ 1073741824 ∧ c.path.length ≤ 1073741824

/-- A block of a cookie. -/
def Blk6 (w : World) (g : Nat) (c : Ck.C) : Prop := w.heap[g]? = some (.cells #[.string (S c.name), .string (S c.val), .string (S c.path), .int .i64 c.age, .bool c.sec, .bool c.http] 32 (0, 0))
section
variable {w w' : World} {g : Nat} {c : Ck.C}
theorem Blk6.new (w : World) (c : Ck.C) : Blk6 (w.alloc (.cells #[.string (S c.name), .string (S c.val), .string (S c.path), .int .i64 c.age, .bool c.sec, .bool c.http] 32)) w.heap.size c := heap_alloc_new w _
theorem Blk6.below {B : Nat} (h : Blk6 w g c) (hb : Below B w w') (hg : g < B) : Blk6 w' g c := (hb.block g hg).trans h
theorem Blk6.c0 (h : Blk6 w g c) : w.cell? ⟨g, 0, none⟩ = some (.string (S c.name)) := cell_of_row w g 0 _ _ _ h
theorem Blk6.c1 (h : Blk6 w g c) : w.cell? ⟨g, 1, none⟩ = some (.string (S c.val)) := cell_of_row w g 1 _ _ _ h
theorem Blk6.c2 (h : Blk6 w g c) : w.cell? ⟨g, 2, none⟩ = some (.string (S c.path)) := cell_of_row w g 2 _ _ _ h
theorem Blk6.c3 (h : Blk6 w g c) : w.cell? ⟨g, 3, none⟩ = some (.int .i64 c.age) := cell_of_row w g 3 _ _ _ h
theorem Blk6.c4 (h : Blk6 w g c) : w.cell? ⟨g, 4, none⟩ = some (.bool c.sec) := cell_of_row w g 4 _ _ _ h
theorem Blk6.c5 (h : Blk6 w g c) : w.cell? ⟨g, 5, none⟩ = some (.bool c.http) := cell_of_row w g 5 _ _ _ h
theorem Blk6.frozen (h : Blk6 w g c) (i : Nat) : w.frozen? ⟨g, i, none⟩ = false := by
  unfold Blk6 at h
  simp [World.frozen?, h]
theorem Blk6.lt (h : Blk6 w g c) : g < w.heap.size := lt_of_blk h
end

theorem hasPrefix_47 (l : List UInt8) : Lib.hasPrefix l [47] = (l.head? == some 47) := by
  cases l with
  | nil => rfl
  | cons c r =>
    unfold Lib.hasPrefix
    simp [List.isPrefixOf]
    rw [Bool.eq_iff_iff, beq_iff_eq, beq_iff_eq]
    exact eq_comm
theorem hasPrefix_to (l : List UInt8) (w : World) :
    Calls Tryd.prog 44 #[.string (S l), .string ⟨#[47]⟩] w fun e w' => e = .returned (.bool (l.head? == some 47)) ∧ w = w' :=
  (Tryd.strings_HasPrefix (S l) ⟨#[47]⟩ w).mono fun e w' ⟨he, hw⟩ => ⟨by rw [he, ← hasPrefix_47]; rfl, hw.symm⟩

set_option maxHeartbeats 1600000 in
theorem right_any (c : Ck.C) (w : World) (hc : Small c) :
    Calls Tryd.prog 21 #[cV c] w fun e w' => e = .returned (.bool (Ck.right c)) ∧ Below w.heap.size w w' := by
  obtain ⟨hn, hv, hp⟩ := hc
  have b0 := Blk6.new w c
  have hb0 : Below w.heap.size w (w.alloc (.cells #[.string (S c.name), .string (S c.val), .string (S c.path), .int .i64 c.age, .bool c.sec, .bool c.http] 32)) := (Below.refl _ _).alloc (Nat.le_refl _) _
  by_cases h1 : -1 ≤ c.age
  · by_cases h2 : c.age ≤ 99999999
    · have HR := Lib.hid (show Ck.right c = (Ck.token c.name && (Ck.value c.val && ((c.path.head? == some 47) && Ck.value c.path))) by unfold Ck.right; simp [h1, h2])
      go_enter Tryd.func21, Tryd.ntmps21
      go_wp2_with fail
      refine (isToken_any c.name _ hn).mono ?_
      rintro e w1 ⟨rfl, hb1⟩
      have b1 : Blk6 w1 w.heap.size c := b0.below hb1 (by simp)
      have hbw : Below w.heap.size w w1 := hb0.trans (hb1.mono (by simp))
      have d1 := b1.c1
      have d2 := b1.c2
      clear b0 hb0 hb1 b1
      cases ht : Ck.token c.name with
      | false =>
        rw [ht] at HR
        clear ht
        go_wp2
        go_ret
        exact ⟨ret_bool HR.out.symm, hbw⟩
      | true =>
        rw [ht] at HR
        clear ht
        go_wp2_with fail
        refine (isValue_any c.val _ hv).mono ?_
        rintro e w2 ⟨rfl, rfl⟩
        cases hvv : Ck.value c.val with
        | false =>
          rw [hvv] at HR
          clear hvv
          go_wp2
          go_ret
          exact ⟨ret_bool HR.out.symm, hbw⟩
        | true =>
          rw [hvv] at HR
          clear hvv
          go_wp2_with fail
          refine (hasPrefix_to c.path _).mono ?_
          rintro e w2 ⟨rfl, rfl⟩
          cases hh : (c.path.head? == some 47) with
          | false =>
            rw [hh] at HR
            clear hh
            go_wp2
            go_ret
            exact ⟨ret_bool HR.out.symm, hbw⟩
          | true =>
            rw [hh] at HR
            clear hh
            go_wp2_with fail
            refine (isValue_any c.path _ hp).mono ?_
            rintro e w2 ⟨rfl, rfl⟩
            go_wp2
            go_ret
            exact ⟨ret_bool (by rw [HR.out]; rfl), hbw⟩
    · have HR := Lib.hid (show Ck.right c = false by unfold Ck.right; simp [h2])
      have h2' : 99999999 < c.age := by omega
      clear b0 h2
      go_enter Tryd.func21, Tryd.ntmps21
      go_wp2
      go_ret
      exact ⟨ret_bool HR.out.symm, hb0⟩
  · have HR := Lib.hid (show Ck.right c = false by unfold Ck.right; simp [h1])
    have h1' : c.age < -1 := by omega
    clear b0 h1
    go_enter Tryd.func21, Tryd.ntmps21
    go_wp2
    go_ret
    exact ⟨ret_bool HR.out.symm, hb0⟩
end Go.Proofs.YtpdilhnbbokipaaDoor
