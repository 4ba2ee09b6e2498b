/- What package frame's calls tell, as one structure, and the statements' own awake over it. -/
import Derived.Test.YtocfppopnoegmaaDoorFrF
namespace Go.Proofs.YtocfppopnoegmaaDoor
set_option maxRecDepth 8000
open Go.RowKit

/-- What Scan tells, for whoever reads it. -/
def ToldPost (l : List UInt8) (w : World) (e : Ending) (w' : World) : Prop :=
  ∃ A c m, e = .returned (.tuple #[.slice A m c, .int .i64 ((Fr.scan l).2 : Int)]) ∧ m = (Fr.scan l).1.length ∧ m ≤ c ∧ c ≤ 9223372036854775807 ∧ LC w' w'.heap.size A (Fr.scan l).1 ∧ Below w.heap.size w w'
structure FrOk (Env : World → Prop) : Prop where
  next : ∀ w w', Env w → Below w.heap.size w w' → Env w'
  put : ∀ (A : Option Addr) (c n : Nat) (l : List UInt8) (w : World), Env w → l.length = n → BCells w w.heap.size A l → n ≤ c → c ≤ 9223372036854775807 → Calls Tryd.prog 9 #[.slice A n c] w (PutPost (Fr.put l) w)
  all : ∀ (A : Option Addr) (c n : Nat) (l : List (List UInt8)) (w : World), Env w → l.length = n → LC w w.heap.size A l → n ≤ c → c ≤ 9223372036854775807 → Fr.okTotal l ≤ 16777216 → (∀ b ∈ l, b.length ≤ 9223372036854775807) → Calls Tryd.prog 11 #[.slice A n c] w (PutPost (Fr.all l) w)
  scan : ∀ (A : Option Addr) (c n : Nat) (l : List UInt8) (w : World), Env w → l.length = n → BCells w w.heap.size A l → n ≤ c → c ≤ 9223372036854775807 → n ≤ 16777216 → Calls Tryd.prog 13 #[.slice A n c] w (ToldPost l w)
  size : ∀ (n : Nat) (w : World), Env w → n ≤ 1099511627776 → Calls Tryd.prog 17 #[.int .i64 (n : Int)] w fun e w' => e = .returned (.int .i64 ((n : Int) + 6)) ∧ Below w.heap.size w w'
theorem row_cap {base : Nat} {w : World} {A : Option Addr} {n c : Nat} {l : List UInt8} (h : Row base w (.slice A n c) l) : n ≤ c ∧ c ≤ 9223372036854775807 := by
  have hn := row_len h
  rcases h.2 with ⟨h1, h2⟩ | ⟨g, cap, cur, h1, _, _, h2, h3, _⟩
  · injection h1 with _ e1 e2
    subst e2
    omega
  · injection h1 with _ e1 e2
    subst e2
    unfold maxLen at h3
    omega
theorem refScan_told {l : List UInt8} {w : World} {e : Ending} {w' : World} (h : ScanPost l w e w') : ∃ A c m, e = .returned (.tuple #[.slice A m c, .int .i64 ((Fr.scan l).2 : Int)]) ∧ m = (Fr.scan l).1.length ∧ LC w' w'.heap.size A (Fr.scan l).1 ∧ Below w.heap.size w w' := by
  obtain ⟨A, c, m, cs, he, hl, hb⟩ := h
  exact ⟨A, c, m, he, hl.len, hl.lc, hb⟩
/-- One slice of bytes, in a list. -/
theorem lc_one {w : World} {g : Nat} {A : Option Addr} {m c : Nat} {x : List UInt8} (hg : w.heap[g]? = some (.cells #[.slice A m c] 22 (0, 0))) (hm : x.length = m) (hx : BCells w w.heap.size A x) : LC w w.heap.size (some ⟨g, 0, none⟩) [x] := fun _ => by
  refine ⟨g, 0, rfl, (Array.getElem?_eq_some_iff.1 hg).1, fun k hk => ?_⟩
  have hk0 : k = 0 := by simpa using hk
  subst hk0
  refine ⟨A, c, ?_, hx⟩
  rw [cell_of_row w g 0 _ _ _ hg]
  subst hm
  rfl
theorem bc_made {w : World} {g : Nat} {l : List UInt8} {fr : Nat × Nat} (hg : w.heap[g]? = some (.cells (l.map B).toArray 5 fr)) : BCells w w.heap.size (some ⟨g, 0, none⟩) l := fun _ => by
  refine ⟨g, 0, rfl, (Array.getElem?_eq_some_iff.1 hg).1, fun k hk => ?_⟩
  rw [Nat.zero_add, cell_of_row w g k _ _ _ hg]
  simp [hk]

set_option maxHeartbeats 1600000 in
theorem awake9_any {Env : World → Prop} (hF : FrOk Env) (w : World) (hE : Env w) :
    Calls Tryd.prog 7 #[] w fun e w' => e = .returned (.bool true) ∧ Below w.heap.size w w' := by
  have hok : Fr.ok [97] = true := by decide
  have hput := Fr.put_ok hok
  have hscan : Fr.scan (Fr.frame [97]) = ([[97]], 7) := by
    have h := Fr.scan_frames [[97]] [] (by rw [List.all_cons, hok]; rfl)
    rw [List.append_nil, Fr.frames_cons] at h
    have e : Fr.frames [] = [] := rfl
    rw [e, List.append_nil, Fr.scan_none (b := []) rfl, Fr.frame_len] at h
    exact h
  have hfl : (Fr.frame [97]).length = 7 := Fr.frame_len _
  have hf1 : (Fr.frame [97])[1]'(by rw [hfl]; omega) = 1 := rfl
  have hf6 : (Fr.frame [97])[6]'(by rw [hfl]; omega) = 97 := rfl
  obtain ⟨f, hf⟩ : ∃ f, f = Fr.frame [97] := ⟨_, rfl⟩
  rw [← hf] at hput hscan hfl
  have hf1' : f[1]'(by rw [hfl]; omega) = 1 := by subst hf; exact hf1
  have hf6' : f[6]'(by rw [hfl]; omega) = 97 := by subst hf; exact hf6
  clear hf1 hf6 hf hok
  have HPU := Lib.hid hput
  have HSC := Lib.hid hscan
  have HFL := Lib.hid hfl
  clear hput hscan
  go_enter Tryd.func7, Tryd.ntmps7
  go_wp2_with fail
  rw [Lib.run_convert_bytes_const w 22 5 _ 1 1 Tryd.underlying22 Tryd.underlying5]
  have hsz1 : (#[.int .u8 97] : Array Value).size = 1 := rfl
  rw [hsz1]
  have hbl : (w.alloc (.cells #[.int .u8 97] 5 (1, 1 + 1))).heap[w.heap.size]? = some (.cells (([97] : List UInt8).map B).toArray 5 (1, 1 + 1)) := heap_alloc_new w _
  have hb1 : Below w.heap.size w (w.alloc (.cells #[.int .u8 97] 5 (1, 1 + 1))) := (Below.refl _ _).alloc (Nat.le_refl _) _
  obtain ⟨w1, hw1⟩ : ∃ w1, w1 = w.alloc (.cells #[.int .u8 97] 5 (1, 1 + 1)) := ⟨_, rfl⟩
  rw [← hw1] at hbl hb1 ⊢
  clear hw1
  have hE1 := hF.next _ _ hE hb1
  have HP := Lib.hid (hF.put _ 1 1 [97] w1 hE1 rfl (bc_made hbl) (by omega) (by omega))
  rw [HPU.out] at HP
  clear hbl
  go_wp2_with fail
  refine HP.out.mono ?_
  rintro _ w2 ⟨hb2, A2, c2, rfl, hrow2⟩
  rw [hfl] at hrow2 ⊢
  have hE2 := hF.next _ _ hE1 hb2
  have hbw2 := hb1.trans (hb2.mono hb1.size)
  have hfc := row_cells hrow2
  have hcap := row_cap hrow2
  obtain ⟨b, off, rfl, hbb, hcl⟩ := hfc (by omega)
  have c1 : w2.cell? ⟨b, off + 1, none⟩ = some (.int .u8 1) := by rw [hcl 1 (by omega), hf1']; rfl
  have c6 : w2.cell? ⟨b, off + 6, none⟩ = some (.int .u8 97) := by rw [hcl 6 (by omega), hf6']; rfl
  have HS := Lib.hid (hF.scan _ c2 7 f w2 hE2 hfl hfc hcap.1 hcap.2 (by omega))
  have HSZ := Lib.hid (fun (w' : World) (h : Env w') => hF.size 1 w' h (by omega))
  have HNX := Lib.hid hF.next
  clear hrow2 hfc hcl hcap hb2 hb1 HP hF hE hE1
  go_wp2_with fail
  refine HS.out.mono ?_
  rintro _ w3 ⟨A3, c3, m3, rfl, hm3, _, _, hlc3, hb3⟩
  rw [HSC.out] at hm3 hlc3 ⊢
  have hm3' : m3 = 1 := hm3
  subst hm3'
  dsimp only at hlc3 ⊢
  have d1 := (hb3.cell (p := ⟨b, off + 1, none⟩) hbb).trans c1
  have d6 := (hb3.cell (p := ⟨b, off + 6, none⟩) hbb).trans c6
  have hE3 := HNX.out _ _ hE2 hb3
  have hbw3 := hbw2.trans (hb3.mono hbw2.size)
  clear c1 c6 hm3 hb3 hE2 hbw2
  go_wp2_with fail
  rw [Lib.run_convert_bytes_const w3 22 5 _ 1 1 Tryd.underlying22 Tryd.underlying5]
  rw [hsz1]
  have hbl : (w3.alloc (.cells #[.int .u8 97] 5 (1, 1 + 1))).heap[w3.heap.size]? = some (.cells (([97] : List UInt8).map B).toArray 5 (1, 1 + 1)) := heap_alloc_new w3 _
  have hb4 : Below w3.heap.size w3 (w3.alloc (.cells #[.int .u8 97] 5 (1, 1 + 1))) := (Below.refl _ _).alloc (Nat.le_refl _) _
  obtain ⟨w4, hw4⟩ : ∃ w4, w4 = w3.alloc (.cells #[.int .u8 97] 5 (1, 1 + 1)) := ⟨_, rfl⟩
  obtain ⟨g4, hg4⟩ : ∃ g4, g4 = w3.heap.size := ⟨_, rfl⟩
  rw [← hw4] at hbl hb4 ⊢
  rw [← hg4] at hbl ⊢
  have hbc4 := bc_made hbl
  have hlc4 := hlc3.next hb4
  have hE4 := HNX.out _ _ hE3 hb4
  have hbw4 := hbw3.trans (hb4.mono hbw3.size)
  clear hw4 hg4 hbl hb4 hlc3 hbw3 hE3
  have hbl5 : (w4.alloc (.cells #[.slice (some ⟨g4, 0, none⟩) 1 1] 22)).heap[w4.heap.size]? = some (.cells #[.slice (some ⟨g4, 0, none⟩) 1 1] 22 (0, 0)) := heap_alloc_new w4 _
  have hb5 : Below w4.heap.size w4 (w4.alloc (.cells #[.slice (some ⟨g4, 0, none⟩) 1 1] 22)) := (Below.refl _ _).alloc (Nat.le_refl _) _
  have HLI := Lib.hid (refLists_any A3 _ c3 1 1 1 [[97]] [[97]] _ rfl rfl (hlc4.next hb5) (lc_one hbl5 rfl (hbc4.next hb5)) (by omega))
  have hE5 := HNX.out _ _ hE4 hb5
  have hbw5 := hbw4.trans (hb5.mono hbw4.size)
  clear hbl5 hb5 hbc4 hlc4 hE4 hbw4
  go_wp2_with fail
  refine HLI.out.mono ?_
  rintro _ w6 ⟨rfl, hb6⟩
  have hE6 := HNX.out _ _ hE5 hb6
  have hbw6 := hbw5.trans (hb6.mono hbw5.size)
  have HZ := Lib.hid (HSZ.out w6 hE6)
  clear hb6 hE5 hbw5
  go_wp2_with fail
  refine HZ.out.mono ?_
  rintro _ w7 ⟨rfl, hb7⟩
  have hbw7 := hbw6.trans (hb7.mono hbw6.size)
  go_wp2_with fail
  go_ret
  first
    | exact ⟨rfl, hbw7⟩
    | exact ⟨ret_bool (by simp), hbw7⟩
end Go.Proofs.YtocfppopnoegmaaDoor
