/- The statements' own do, where it is an Append or a Replace, a Stop, or none of what it knows. Condition: the table of sums reads as its text lays it. Lists of bytes that came in: from their readings to their cells. No condition. -/
import Derived.Test.YtkmljbbnpjlehaaDoorMg33
import Derived.Test.YtkmljbbnpjlehaaDoorMg05
import Derived.Deep.Grids
import Derived.Deep.Slices
namespace Go.Proofs.YtkmljbbnpjlehaaDoor
set_option maxRecDepth 8000
open Go.RowKit

set_option maxHeartbeats 800000 in
theorem do_append {base : Nat} {S : List Nat} {w : World} {P L : Nat} {d : Dk.D} {l : Wl.L} (h : SZ base S w P L d l) (hb : base ≤ w.heap.size) (hH : Hs w) (h0 : 0 < base) (hst : d.st = []) {c N : Nat} (hn : d.n = N) (hi : Wl.Inv c N d.kept l) (no : Int) (A Al Ap : Option Addr) (cp n nl cl np cpp : Nat) (b : List UInt8) (hA : BCells w base A b) (hbn : b.length = n) (hnc : n ≤ cp) (hc : cp ≤ 9223372036854775807) :
    Calls Tryd.prog 18 #[.pointer (some ⟨P, 0, none⟩), .pointer (some ⟨L, 0, none⟩), .agg #[.int .i64 1, .int .i64 no, .slice A n cp, .slice Al nl cl, .slice Ap np cpp]] w fun e w' => e = .returned (.int .i64 (Wl.append d l b).1) ∧ ZPost base S w P L (Wl.append d l b).2.1 (Wl.append d l b).2.2 w' := by
  have hba : Below w.heap.size w (w.alloc (.cells #[.int .i64 1, .int .i64 no, .slice A n cp, .slice Al nl cl, .slice Ap np cpp] 40)) := (Below.refl _ _).alloc (Nat.le_refl _) _
  have HAP := Lib.hid (append_z (h.keep hba) (Nat.le_trans hb hba.size) (hH.next hba) h0 hst hn hi A cp n b ((hA.keepB hba hb)) hbn hnc hc)
  have HBA := Lib.hid hba
  have HS := Lib.hid h
  clear h hH hst hi hA hba
  go_enter Tryd.func18, Tryd.ntmps18
  go_wp2_with fail
  refine HAP.out.mono ?_
  rintro _ w2 ⟨rfl, h1, h2, h3⟩
  go_wp2_with fail
  go_ret
  obtain ⟨F, _, _, hF⟩ := HS.out
  exact ⟨rfl, h1, SameX.trans (fun x hx => HBA.out.block x (hF x hx).2) h2, (HBA.out.mono hb).trans h3⟩
theorem replace_z {base : Nat} {S : List Nat} {w : World} {P L : Nat} {d : Dk.D} {l : Wl.L} (h : SZ base S w P L d l) (hb : base ≤ w.heap.size) (hH : Hs w) (h0 : 0 < base) (hst : d.st = []) {c N : Nat} (hn : d.n = N) (hi : Wl.Inv c N d.kept l) (A : Option Addr) (cp n : Nat) (all : List (List UInt8)) (hA : LC w base A all) (hbn : all.length = n) (hnc : n ≤ cp) (hc : cp ≤ 9223372036854775807) (ht : Fr.okTotal all ≤ 16384) (hq : ∀ b ∈ all, b.length ≤ 9223372036854775807) :
    Calls Tryd.prog 66 #[.pointer (some ⟨L, 0, none⟩), .slice A n cp] w fun e w' => e = .returned (.int .i64 (Wl.replace d l all).1) ∧ ZPost base S w P L (Wl.replace d l all).2.1 (Wl.replace d l all).2.2 w' := by
  obtain ⟨F, h1, h2, h3⟩ := h
  refine (replace_any F w P L d l A cp n all hH h1 (fun hf => by have := (h2 _ hf).1; omega) hst (by rw [hn]; exact hi.n4) hi.gen hi.a1 (hA.moreB hb) hbn hnc hc ht hq).mono ?_
  rintro e w' ⟨rfl, h4, h5⟩
  exact ⟨rfl, SZ.step h2 h3 hb h4 h5⟩
set_option maxHeartbeats 800000 in
theorem do_replace {base : Nat} {S : List Nat} {w : World} {P L : Nat} {d : Dk.D} {l : Wl.L} (h : SZ base S w P L d l) (hb : base ≤ w.heap.size) (hH : Hs w) (h0 : 0 < base) (hst : d.st = []) {c N : Nat} (hn : d.n = N) (hi : Wl.Inv c N d.kept l) (no : Int) (Ab A Ap : Option Addr) (nb cb n cp np cpp : Nat) (all : List (List UInt8)) (hA : LC w base A all) (hbn : all.length = n) (hnc : n ≤ cp) (hc : cp ≤ 9223372036854775807) (ht : Fr.okTotal all ≤ 16384) (hq : ∀ b ∈ all, b.length ≤ 9223372036854775807) :
    Calls Tryd.prog 18 #[.pointer (some ⟨P, 0, none⟩), .pointer (some ⟨L, 0, none⟩), .agg #[.int .i64 2, .int .i64 no, .slice Ab nb cb, .slice A n cp, .slice Ap np cpp]] w fun e w' => e = .returned (.int .i64 (Wl.replace d l all).1) ∧ ZPost base S w P L (Wl.replace d l all).2.1 (Wl.replace d l all).2.2 w' := by
  have hba : Below w.heap.size w (w.alloc (.cells #[.int .i64 2, .int .i64 no, .slice Ab nb cb, .slice A n cp, .slice Ap np cpp] 40)) := (Below.refl _ _).alloc (Nat.le_refl _) _
  have HAP := Lib.hid (replace_z (h.keep hba) (Nat.le_trans hb hba.size) (hH.next hba) h0 hst hn hi A cp n all (hA.keepB hba hb) hbn hnc hc ht hq)
  have HBA := Lib.hid hba
  have HS := Lib.hid h
  clear h hH hst hi hA hba hq ht
  go_enter Tryd.func18, Tryd.ntmps18
  go_wp2_with fail
  refine HAP.out.mono ?_
  rintro _ w2 ⟨rfl, h1, h2, h3⟩
  go_wp2_with fail
  go_ret
  obtain ⟨F, _, _, hF⟩ := HS.out
  exact ⟨rfl, h1, SameX.trans (fun x hx => HBA.out.block x (hF x hx).2) h2, (HBA.out.mono hb).trans h3⟩
set_option maxHeartbeats 800000 in
theorem do_stop {base : Nat} {S : List Nat} {w : World} {P L : Nat} {d : Dk.D} {l : Wl.L} (h : SZ base S w P L d l) (hb : base ≤ w.heap.size) (no : Int) (hno : I64 no) (Ab A Ap : Option Addr) (nb cb n cp np cpp : Nat) :
    Calls Tryd.prog 18 #[.pointer (some ⟨P, 0, none⟩), .pointer (some ⟨L, 0, none⟩), .agg #[.int .i64 5, .int .i64 no, .slice Ab nb cb, .slice A n cp, .slice Ap np cpp]] w fun e w' => e = .returned (.int .i64 0) ∧ ZPost base S w P L (d.stop no) l w' := by
  have hba : Below w.heap.size w (w.alloc (.cells #[.int .i64 5, .int .i64 no, .slice Ab nb cb, .slice A n cp, .slice Ap np cpp] 40)) := (Below.refl _ _).alloc (Nat.le_refl _) _
  have HAP := Lib.hid (stop_z (h.keep hba) (Nat.le_trans hb hba.size) no hno)
  have HBA := Lib.hid hba
  have HS := Lib.hid h
  clear h hba
  go_enter Tryd.func18, Tryd.ntmps18
  go_wp2_with fail
  refine HAP.out.mono ?_
  rintro _ w2 ⟨rfl, h1, h2, h3⟩
  go_wp2_with fail
  go_ret
  obtain ⟨F, _, _, hF⟩ := HS.out
  exact ⟨rfl, h1, SameX.trans (fun x hx => HBA.out.block x (hF x hx).2) h2, (HBA.out.mono hb).trans h3⟩
end Go.Proofs.YtkmljbbnpjlehaaDoor
namespace Go.Proofs.YtkmljbbnpjlehaaDoor
set_option maxRecDepth 8000
open Go.ChangeShapes Go.WideShapes Go.ChangeAt Go.WideMaps Go.WideElems Go.RowKit

theorem Tryd.cellsBytes : Tryd.prog.cellsOf 36 = 1 := by kernel_rfl
theorem open_bytesV {H : Type} {enc : TypeId × Value → H} {W : World} {base0 : Nat} {sp : Nat → Bool} {held : Bool} {fuel : Nat} {v : Value} {x : DataW H × List MemPlace}
    (hf : DataW.trod enc Tryd.prog W base0 sp held fuel 36 [v] = some x) :
    ∃ (A : Option Addr) (c : Nat) (l : List UInt8), v = .slice A l.length c ∧ BCells W W.heap.size A l ∧ l.length ≤ c ∧ c ≤ 9223372036854775807 := by
  rcases open_ints Tryd.underlying36 Tryd.underlying5 Tryd.cellsByte hf with ⟨hcs, _⟩ | ⟨a, len', cap', zs, hcs, _⟩
  · simp only [List.cons.injEq, and_true] at hcs
    exact ⟨none, 0, [], hcs, fun h => absurd h (by simp), Nat.le_refl _, by omega⟩
  · simp only [List.cons.injEq, and_true] at hcs
    subst hcs
    obtain ⟨l, h1, h2, h3, h4⟩ := open_bytes hf
    exact ⟨some a, cap', l, by rw [h1], h2, by omega, h4⟩
theorem open_lists {H : Type} {enc : TypeId × Value → H} {W : World} {base0 : Nat} {held : Bool} {fuel : Nat} {a0 : Option Addr} {len cap : Nat} {x : DataW H × List MemPlace}
    (hf : DataW.trod enc Tryd.prog W base0 (fun _ => true) held fuel 37 [.slice a0 len cap] = some x) :
    ∃ l : List (List UInt8), l.length = len ∧ LC W W.heap.size a0 l ∧ len ≤ cap ∧ cap ≤ 9223372036854775807 ∧ ∀ b ∈ l, b.length ≤ 9223372036854775807 := by
  rcases Deep.open_slice1 Tryd.underlying37 Tryd.cellsBytes hf with ⟨hcs, _⟩ | ⟨a, len', cap', m, n, V, D, Pl, hcs, _, hlc, hcm, hmm, _, hx⟩
  · simp only [List.cons.injEq, Value.slice.injEq, and_true] at hcs
    obtain ⟨rfl, rfl, rfl⟩ := hcs
    exact ⟨[], rfl, fun h => absurd h (by simp), by omega, by omega, fun b hb => absurd hb (by simp)⟩
  · simp only [List.cons.injEq, Value.slice.injEq, and_true] at hcs
    obtain ⟨rfl, rfl, rfl⟩ := hcs
    have hle : len ≤ m := by rw [hmm]; split <;> omega
    have hs : ∀ i, i < len → ∃ q : Option Addr × Nat × List UInt8, W.cell? (a.add i) = some (.slice q.1 q.2.2.length q.2.1) ∧ BCells W W.heap.size q.1 q.2.2 ∧ q.2.2.length ≤ 9223372036854775807 := by
      intro i hi
      obtain ⟨h1, h2⟩ := hx i (by omega)
      obtain ⟨A, c, l, e, hb, hlc', hcm'⟩ := open_bytesV h2
      exact ⟨(A, c, l), by rw [h1, e], hb, by show l.length ≤ _; omega⟩
    obtain ⟨q, hq⟩ := Deep.choose_lt (α := Option Addr × Nat × List UInt8) hs
    refine ⟨(List.range len).map fun i => (q i).2.2, by simp, fun hn => ?_, hlc, by unfold maxLen at hcm; omega, fun b hb => ?_⟩
    · have hn' : 0 < len := by simpa using hn
      obtain ⟨b, off, spot⟩ := a
      have h00 := (hq 0 hn').1
      have hspot : spot = none := by simpa [Addr.add] using World.cell?_spot h00
      subst hspot
      have hadd : ∀ j, (⟨b, off, none⟩ : Addr).add j = ⟨b, off + j, none⟩ := fun j => Addr.add_mid b off j
      refine ⟨b, off, rfl, ?_, fun k hk => ?_⟩
      · have := World.block_lt_of_cell? W _ h00
        rw [hadd] at this
        exact this
      · have hk' : k < len := by simpa using hk
        have e : ((List.range len).map fun i => (q i).2.2)[k] = (q k).2.2 := by simp
        rw [e]
        have h1 := (hq k hk').1
        rw [hadd] at h1
        exact ⟨(q k).1, (q k).2.1, h1, (hq k hk').2.1⟩
    · obtain ⟨i, hi, rfl⟩ := List.mem_map.1 hb
      exact (hq i (List.mem_range.1 hi)).2.2
end Go.Proofs.YtkmljbbnpjlehaaDoor
