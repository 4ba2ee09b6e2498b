/- What package frame's calls tell, as one structure, and the statements' own awake over it. The program's Put and Size of package frame, for any bytes, where the table of sums reads as its text lays it. -/
import Derived.Test.YtkmljbbnpjlehaaDoorMg06
namespace Go.Proofs.YtkmljbbnpjlehaaDoor
set_option maxRecDepth 8000
open Go.RowKit

/-- What Scan tells, for whoever reads it. -/
def ToldPost (l : List UInt8) (w : World) (e : Ending) (w' : World) : Prop :=
  ∃ A c m, e = .returned (.tuple #[.slice A m c, .int .i64 ((Fr.scan l).2 : Int)]) ∧ m = (Fr.scan l).1.length ∧ m ≤ c ∧ c ≤ 9223372036854775807 ∧ LC w' w'.heap.size A (Fr.scan l).1 ∧ Below w.heap.size w w'
structure FrOk (Env : World → Prop) : Prop where
  next : ∀ w w', Env w → Below w.heap.size w w' → Env w'
  put : ∀ (A : Option Addr) (c n : Nat) (l : List UInt8) (w : World), Env w → l.length = n → BCells w w.heap.size A l → n ≤ c → c ≤ 9223372036854775807 → Calls Tryd.prog 87 #[.slice A n c] w (PutPost (Fr.put l) w)
  all : ∀ (A : Option Addr) (c n : Nat) (l : List (List UInt8)) (w : World), Env w → l.length = n → LC w w.heap.size A l → n ≤ c → c ≤ 9223372036854775807 → Fr.okTotal l ≤ 16777216 → (∀ b ∈ l, b.length ≤ 9223372036854775807) → Calls Tryd.prog 95 #[.slice A n c] w (PutPost (Fr.all l) w)
  scan : ∀ (A : Option Addr) (c n : Nat) (l : List UInt8) (w : World), Env w → l.length = n → BCells w w.heap.size A l → n ≤ c → c ≤ 9223372036854775807 → n ≤ 16777216 → Calls Tryd.prog 61 #[.slice A n c] w (ToldPost l w)
  size : ∀ (n : Nat) (w : World), Env w → n ≤ 1099511627776 → Calls Tryd.prog 106 #[.int .i64 (n : Int)] w fun e w' => e = .returned (.int .i64 ((n : Int) + 6)) ∧ Below w.heap.size w w'
theorem row_cap {base : Nat} {w : World} {A : Option Addr} {n c : Nat} {l : List UInt8} (h : Row base w (.slice A n c) l) : n ≤ c ∧ c ≤ 9223372036854775807 := by
  have hn := row_len h
  rcases h.2 with ⟨h1, h2⟩ | ⟨g, cap, cur, h1, _, _, h2, h3, _⟩
  · injection h1 with _ e1 e2
    subst e2
    omega
  · injection h1 with _ e1 e2
    subst e2
    unfold maxLen at h3
    omega
theorem refScan_told {l : List UInt8} {w : World} {e : Ending} {w' : World} (h : ScanPost l w e w') : ∃ A c m, e = .returned (.tuple #[.slice A m c, .int .i64 ((Fr.scan l).2 : Int)]) ∧ m = (Fr.scan l).1.length ∧ LC w' w'.heap.size A (Fr.scan l).1 ∧ Below w.heap.size w w' := by
  obtain ⟨A, c, m, cs, he, hl, hb⟩ := h
  exact ⟨A, c, m, he, hl.len, hl.lc, hb⟩
/-- One slice of bytes, in a list. -/
theorem lc_one {w : World} {g : Nat} {A : Option Addr} {m c : Nat} {x : List UInt8} (hg : w.heap[g]? = some (.cells #[.slice A m c] 36 (0, 0))) (hm : x.length = m) (hx : BCells w w.heap.size A x) : LC w w.heap.size (some ⟨g, 0, none⟩) [x] := fun _ => by
  refine ⟨g, 0, rfl, (Array.getElem?_eq_some_iff.1 hg).1, fun k hk => ?_⟩
  have hk0 : k = 0 := by simpa using hk
  subst hk0
  refine ⟨A, c, ?_, hx⟩
  rw [cell_of_row w g 0 _ _ _ hg]
  subst hm
  rfl
theorem bc_made {w : World} {g : Nat} {l : List UInt8} {fr : Nat × Nat} (hg : w.heap[g]? = some (.cells (l.map B).toArray 5 fr)) : BCells w w.heap.size (some ⟨g, 0, none⟩) l := fun _ => by
  refine ⟨g, 0, rfl, (Array.getElem?_eq_some_iff.1 hg).1, fun k hk => ?_⟩
  rw [Nat.zero_add, cell_of_row w g k _ _ _ hg]
  simp [hk]

end Go.Proofs.YtkmljbbnpjlehaaDoor
namespace Go.Proofs.YtkmljbbnpjlehaaDoor
set_option maxRecDepth 8000
open Go.RowKit

theorem Hs.next {w w' : World} (h : Hs w) (hb : Below w.heap.size w w') : Hs w' := fun j v hv => by
  have h1 := h j v hv
  exact (hb.cell (p := ⟨0, 0 + j, none⟩) (World.block_lt_of_cell? w _ h1)).trans h1
theorem of_anyN (A : Option Addr) (l : List UInt8) (n cap : Nat) (w : World) (hn : l.length = n) (hH : Hs w) (hl : n ≤ 9223372036854775807) (hb : BC w A l) :
    Calls Tryd.prog 105 #[.slice A n cap] w fun e w' => e = .returned (U (Cr.sum l)) ∧ w = w' := by
  subst hn
  exact of_any A l cap w hH hl hb
theorem more_anyN (s : Nat) (A : Option Addr) (l : List UInt8) (n cap : Nat) (w : World) (hn : l.length = n) (hs : s < 4294967296) (hH : Hs w) (hl : n ≤ 9223372036854775807) (hb : BC w A l) :
    Calls Tryd.prog 104 #[U s, .slice A n cap] w fun e w' => e = .returned (U (Cr.more s l)) ∧ w = w' := by
  subst hn
  exact more_any s A l cap w hs hH hl hb
theorem size_any (n : Nat) (w : World) (hn : n ≤ 1099511627776) : Calls Tryd.prog 106 #[.int .i64 (n : Int)] w fun e w' => e = .returned (.int .i64 ((n : Int) + 6)) ∧ w = w' := by
  have hw : IntKind.i64.wrap ((n : Int) + 6) = (n : Int) + 6 := IntWalk.i64_in _ (by omega)
  go_enter Tryd.func106, Tryd.ntmps106
  go_wp2_with fail
  go_ret
  exact ⟨rfl, rfl⟩

set_option maxHeartbeats 1600000 in
theorem put_any (A : Option Addr) (c n : Nat) (l : List UInt8) (w : World) (hH : Hs w) (hn : l.length = n) (hb : BCells w w.heap.size A l) (hc : n ≤ 9223372036854775807) :
    Calls Tryd.prog 87 #[.slice A n c] w (PutPost (Fr.put l) w) := by
  by_cases h0 : n = 0
  · have hP : Fr.put l = .error 1 := by unfold Fr.put; rw [if_pos (by omega)]
    rw [hP]
    subst h0
    go_enter Tryd.func87, Tryd.ntmps87
    go_wp2_with fail
    go_ret2
    exact ⟨Below.refl _ _, rfl⟩
  by_cases h4 : 4000 < n
  · have hP : Fr.put l = .error 2 := by unfold Fr.put; rw [if_neg (by omega), if_pos (by omega)]
    rw [hP]
    have e0 : ((n : Int) == 0) = false := by simp; omega
    have e1 : (4000 : Int) < (n : Int) := by omega
    go_enter Tryd.func87, Tryd.ntmps87
    go_wp2_with fail
    go_ret2
    exact ⟨Below.refl _ _, rfl⟩
  · have hP : Fr.put l = .ok (Fr.frame l) := by unfold Fr.put; rw [if_neg (by omega), if_neg (by omega)]
    rw [hP]
    have e0 : ((n : Int) == 0) = false := by simp; omega
    have e1 : ¬ (4000 : Int) < (n : Int) := by omega
    have hbytes : (.cells #[.int .u8 ((n : Int) / 256), .int .u8 ((n : Int) % 256)] 5 (0, 0) : Obj) = .cells ((Fr.be2 n).map B).toArray 5 (0, 0) := by
      have h1 : ((n : Int) / 256) = ((UInt8.ofNat (n / 256)).toNat : Int) := by rw [UInt8.toNat_ofNat']; omega
      have h2 : ((n : Int) % 256) = ((UInt8.ofNat n).toNat : Int) := by rw [UInt8.toNat_ofNat']; omega
      rw [h1, h2]
      rfl
    have HBY := Lib.hid hbytes
    have HN := Lib.hid hn
    obtain ⟨s, hs⟩ : ∃ s, s = Cr.more (Cr.sum (Fr.be2 n)) l := ⟨_, rfl⟩
    have hsl : s < 4294967296 := by rw [hs]; exact Cr.more_lt _ (Cr.sum_lt _)
    have HF : Hid (Fr.frame l = Fr.be2 n ++ (Fr.be4 s ++ l)) := Lib.hid (by unfold Fr.frame; rw [hn, hs]; unfold Cr.sum; rw [Cr.more_sum])
    obtain ⟨s0, hs0⟩ : ∃ s, s = Cr.sum (Fr.be2 n) := ⟨_, rfl⟩
    have hs0l : s0 < 4294967296 := by rw [hs0]; exact Cr.sum_lt _
    rw [← hs0] at hs
    have HS := Lib.hid hs
    have HS0 := Lib.hid hs0
    have hbytes4 : (.cells #[.int .u8 ((s : Int) / 16777216), .int .u8 ((s : Int) / 65536 % 256), .int .u8 ((s : Int) / 256 % 256), .int .u8 ((s : Int) % 256)] 5 (0, 0) : Obj) = .cells ((Fr.be4 s).map B).toArray 5 (0, 0) := by
      have h1 : ((s : Int) / 16777216) = ((UInt8.ofNat (s / 16777216)).toNat : Int) := by rw [UInt8.toNat_ofNat']; omega
      have h2 : ((s : Int) / 65536 % 256) = ((UInt8.ofNat (s / 65536)).toNat : Int) := by rw [UInt8.toNat_ofNat']; omega
      have h3 : ((s : Int) / 256 % 256) = ((UInt8.ofNat (s / 256)).toNat : Int) := by rw [UInt8.toNat_ofNat']; omega
      have h4 : ((s : Int) % 256) = ((UInt8.ofNat s).toNat : Int) := by rw [UInt8.toNat_ofNat']; omega
      rw [h1, h2, h3, h4]
      rfl
    have HBY4 := Lib.hid hbytes4
    clear hbytes hbytes4 hn hs hs0 hP
    go_enter Tryd.func87, Tryd.ntmps87
    go_upto_region 6 with (fail)
    rw [HBY.out]
    obtain ⟨w2, hw2⟩ : ∃ w2, w2 = w.alloc (.cells ((Fr.be2 n).map B).toArray 5 (0, 0)) := ⟨_, rfl⟩
    obtain ⟨g, hg⟩ : ∃ g, g = w.heap.size := ⟨_, rfl⟩
    have hrow2 : Row w.heap.size w2 (.slice (some ⟨g, 0, none⟩) 2 2) (Fr.be2 n) := by rw [hw2]; exact row_made w _ (Nat.le_refl _) _ (by simp [Fr.be2]) g 2 hg rfl
    have hb2 : Below w.heap.size w w2 := by rw [hw2]; exact (Below.refl _ _).alloc (Nat.le_refl _) _
    rw [← hw2, ← hg]
    have HG := Lib.hid hg
    clear hw2 hg
    have hH2 := hH.next hb2
    have hc2 := (row_cells hrow2).bc
    have hA2 : BC w2 A l := (hb.below hb2).bc
    have HOF := Lib.hid (of_anyN (some ⟨g, 0, none⟩) (Fr.be2 n) 2 2 w2 rfl hH2 (by omega) hc2)
    rw [← HS0.out] at HOF
    have HMO := Lib.hid (more_anyN s0 A l n c w2 HN.out hs0l hH2 hc hA2)
    rw [← HS.out] at HMO
    have HSZ := Lib.hid (size_any n w2 (by omega))
    obtain ⟨i0, hi0, hz0, hz1, hz2⟩ := info_parts Tryd.infoByte
    obtain ⟨w3, hmk, hown3, hgrow3⟩ := run_make_own (P := Tryd.prog) w2 w.heap.size 36 5 i0 _ 1 Tryd.underlying36 hi0 hz0 hz1 .i64 .i64 (n + 6) (by rw [hz2]; omega) (by unfold maxLen; omega) hb2.size
    rw [show ((n + 6 : Nat) : Int) = (n : Int) + 6 by omega] at hmk
    have hb3 : Below w2.heap.size w2 w3 := (Below.refl _ _).grown hgrow3 (Nat.le_refl _) (fun _ hq => by cases hq)
    obtain ⟨g3, hg3⟩ : ∃ g3, g3 = w2.heap.size := ⟨_, rfl⟩
    rw [← hg3] at hmk hown3
    have hrow3 : Row w.heap.size w3 (.slice (some ⟨g3, 0, none⟩) 0 (n + 6)) [] := hown3
    have HG3 := Lib.hid hg3
    have hbw3 := hb2.trans (hb3.mono hb2.size)
    have hlen3 := hbw3.size
    have hc3 : BC w3 (some ⟨g, 0, none⟩) (Fr.be2 n) := (row_cells (own_below hrow2 hb3)).bc
    obtain ⟨n2, hn2⟩ : ∃ n2 : Nat, n2 = 2 := ⟨_, rfl⟩
    have HN2 : Hid ((Fr.be2 n).length = n2) := Lib.hid (by rw [hn2]; rfl)
    rw [show Value.slice (some ⟨g, 0, none⟩) 2 2 = Value.slice (some ⟨g, 0, none⟩) n2 2 by rw [hn2]] at HOF ⊢
    clear hn2
    obtain ⟨q, hq⟩ : ∃ q, q = n + 6 := ⟨_, rfl⟩
    rw [← hq] at hmk hrow3
    have HQ := Lib.hid hq
    clear hq hg3 hown3 hgrow3 hrow2 hc2 hA2 hH2
    go_wp2_with fail
    refine HOF.out.mono ?_
    rintro _ _ ⟨rfl, rfl⟩
    go_wp2_with fail
    refine HMO.out.mono ?_
    rintro _ _ ⟨rfl, rfl⟩
    go_wp2_with fail
    refine HSZ.out.mono ?_
    rintro _ _ ⟨rfl, rfl⟩
    go_upto_region 8 with (at_builtin; refine wpList_append_bytes ?hw1 (.tmp 28) (.tmp 29) rfl w.heap.size (.slice (some ⟨g3, 0, none⟩) 0 q) (some ⟨g, 0, none⟩) 2 n2 [] (Fr.be2 n) rfl HN2.out rfl hrow3 hc3 (by simp [Fr.be2]) hlen3 ?_; rotate_right; intro v4 w4 hown4 hgrow4)
    have hb4 := hbw3.grown hgrow4 hlen3 (fun k hk => (World.ownsRow.lt hrow3 k hk).1)
    clear hmk hrow3 hc3 hgrow4 HOF HMO HSZ
    obtain ⟨o, ho⟩ : ∃ o : Obj, o = .cells #[.int .u8 ((s : Int) / 16777216), .int .u8 ((s : Int) / 65536 % 256), .int .u8 ((s : Int) / 256 % 256), .int .u8 ((s : Int) % 256)] 5 (0, 0) := ⟨_, rfl⟩
    have hba : Below w4.heap.size w4 (w4.alloc o) := (Below.refl _ _).alloc (Nat.le_refl _) _
    have hb5 := hb4.trans (hba.mono hb4.size)
    have hrow5 : Row w.heap.size (w4.alloc o) v4 ([] ++ Fr.be2 n) := own_below hown4 hba
    have hc5 : BC (w4.alloc o) (some ⟨w4.heap.size, 0, none⟩) (Fr.be4 s) := by
      rw [ho, HBY4.out]
      exact (bc_made (fr := (0, 0)) (heap_alloc_new w4 _)).bc
    have hA5 : BC (w4.alloc o) A l := (hb.below hb5).bc
    rw [ho] at hrow5 hc5 hb5
    have HN4 : Hid ((Fr.be4 s).length = 4) := Lib.hid rfl
    have hlen5 := hb5.size
    clear ho hown4 hba hA5
    go_upto_region 9 with (at_builtin; refine wpList_append_bytes ?hw2 (.tmp 31) (.tmp 43) rfl w.heap.size v4 (some ⟨w4.heap.size, 0, none⟩) 4 4 ([] ++ Fr.be2 n) (Fr.be4 s) rfl HN4.out rfl hrow5 hc5 (by simp [Fr.be2, Fr.be4]) hlen5 ?_; rotate_right; intro v6 w6 hown6 hgrow6)
    have hb6 := hb5.grown hgrow6 hlen5 (fun k hk => (World.ownsRow.lt hrow5 k hk).1)
    have hA6 : BC w6 A l := (hb.below hb6).bc
    have hlen6 := hb6.size
    clear hrow5 hc5 hgrow6 hb5 hlen5 hb4 hbw3 hb3 hb2
    go_wp2_with (at_builtin; refine wpList_append_bytes ?hw3 (.tmp 45) (.tmp 46) rfl w.heap.size v6 A c n ([] ++ Fr.be2 n ++ Fr.be4 s) l rfl HN.out rfl hown6 hA6 (by have := HN.out; simp [Fr.be2, Fr.be4]; omega) hlen6 ?_; rotate_right; intro v7 w7 hown7 hgrow7)
    have hb7 := hb6.grown hgrow7 hlen6 (fun k hk => (World.ownsRow.lt hown6 k hk).1)
    obtain ⟨A7, c7, hv7, _⟩ := hown7.form
    subst hv7
    rw [show [] ++ Fr.be2 n ++ Fr.be4 s ++ l = Fr.frame l by rw [HF.out, List.nil_append, List.append_assoc]] at hown7 ⊢
    go_ret2
    exact ⟨hb7, A7, c7, rfl, hown7⟩
end Go.Proofs.YtkmljbbnpjlehaaDoor
