/- KvCodes, its arguments read: changes that came in. Condition: the table of sums reads as its text lays it. Lists of bytes that came in: each has room for what it holds. No condition. -/
import Derived.Test.YtfceljbmdcbciaaDoorMg41
import Derived.Test.YtfceljbmdcbciaaDoorMg46
import Derived.ChangeArms
namespace Go.Proofs.YtfceljbmdcbciaaDoor
set_option maxRecDepth 8000
open Go.ChangeShapes Go.WideShapes Go.ChangeAt Go.WideMaps Go.WideElems Go.RowKit

theorem Tryd.cellsStrK : Tryd.prog.cellsOf 9 = 1 := by kernel_rfl
theorem Tryd.cellsBoolK : Tryd.prog.cellsOf 4 = 1 := by kernel_rfl
theorem Tryd.cellsChangeK : Tryd.prog.cellsOf 105 = 3 := by kernel_rfl
theorem S_of (s : ByteArray) : S s.data.toList = s := rfl
theorem trod_change {H : Type} {enc : TypeId × Value → H} {W : World} {base0 : Nat} {held : Bool} {fuel : Nat} {cs : List Value} {x : DataW H × List MemPlace} (hlen : cs.length = 3)
    (hf : DataW.trod enc Tryd.prog W base0 (fun _ => true) held fuel 105 cs = some x) : ∃ q : Kv.C, cs = [.string (S q.k), .string (S q.v), .bool q.g] := by
  match cs, hlen with
  | [c0, c1, c2], _ =>
    obtain ⟨xs, n, _, _, _, hxl, hx⟩ := DataW.trod_struct Tryd.underlying105 hf
    have h0 := hx 0 _ rfl
    have h1 := hx 1 _ rfl
    have h2 := hx 2 _ rfl
    simp [Tryd.cellsStrK, Tryd.cellsBoolK] at h0 h1 h2
    have hl : xs.length = 3 := hxl
    rw [List.getElem?_eq_getElem (by omega)] at h0 h1 h2
    obtain ⟨s0, e0, _, _⟩ := DataW.trod_string Tryd.underlying9 h0
    obtain ⟨s1, e1, _, _⟩ := DataW.trod_string Tryd.underlying9 h1
    obtain ⟨g, e2, _⟩ := DataW.trod_bool Tryd.underlying4 h2
    simp only [List.cons.injEq, and_true] at e0 e1 e2
    subst e0 e1 e2
    exact ⟨⟨s0.data.toList, s1.data.toList, g⟩, rfl⟩
theorem open_changes {H : Type} {enc : TypeId × Value → H} {W : World} {base0 : Nat} {held : Bool} {fuel : Nat} {a0 : Option Addr} {len cap : Nat} {x : DataW H × List MemPlace}
    (hf : DataW.trod enc Tryd.prog W base0 (fun _ => true) held fuel 53 [.slice a0 len cap] = some x) :
    ∃ l : List Kv.C, l.length = len ∧ ChIn W W.heap.size a0 l ∧ len ≤ cap ∧ cap ≤ 9223372036854775807 := by
  rcases Deep.open_slice Tryd.underlying53 hf with ⟨hcs, _⟩ | ⟨a, len', cap', m, n, D, Pl, hcs, _, hlc, hcm, hmm, _, hx⟩
  · simp only [List.cons.injEq, Value.slice.injEq, and_true] at hcs
    obtain ⟨rfl, rfl, rfl⟩ := hcs
    exact ⟨[], rfl, fun h => absurd h (by simp), by omega, by omega⟩
  · simp only [List.cons.injEq, Value.slice.injEq, and_true] at hcs
    obtain ⟨rfl, rfl, rfl⟩ := hcs
    have hle : len ≤ m := by rw [hmm]; split <;> omega
    have hs : ∀ i, i < len → ∃ q : Kv.C, ∀ j u, ([.string (S q.k), .string (S q.v), .bool q.g] : List Value)[j]? = some u → W.cell? (a.add (i * 3 + j)) = some u := by
      intro i hi
      obtain ⟨cs', h1, h2⟩ := hx i (by omega)
      rw [Tryd.cellsChangeK] at h1
      obtain ⟨_, hlen, hcell⟩ := World.cells?_some h1
      obtain ⟨q, hq⟩ := trod_change hlen h2
      subst hq
      refine ⟨q, fun j u hu => ?_⟩
      have hj : j < 3 := (List.getElem?_eq_some_iff.1 hu).1
      have := hcell j hj
      rw [Deep.add_add] at this
      rw [this]
      exact hu
    obtain ⟨q, hq⟩ := Deep.choose_lt (α := Kv.C) hs
    refine ⟨(List.range len).map q, by simp, fun hn => ?_, hlc, by unfold maxLen at hcm; omega⟩
    have hn' : 0 < len := by simpa using hn
    obtain ⟨b, off, spot⟩ := a
    have h00 := hq 0 hn' 0 _ rfl
    have hspot : spot = none := by simpa [Addr.add] using World.cell?_spot h00
    subst hspot
    have hadd : ∀ j, (⟨b, off, none⟩ : Addr).add j = ⟨b, off + j, none⟩ := fun j => Addr.add_mid b off j
    refine ⟨b, off, rfl, ?_, fun k hk => ?_⟩
    · have := World.block_lt_of_cell? W _ h00
      rw [hadd] at this
      exact this
    · have hk' : k < len := by simpa using hk
      have e : ((List.range len).map q)[k] = q k := by simp
      rw [e]
      have h0 := hq k hk' 0 _ rfl
      have h1 := hq k hk' 1 _ rfl
      have h2 := hq k hk' 2 _ rfl
      rw [hadd] at h0 h1 h2
      exact ⟨h0, h1, h2⟩
end Go.Proofs.YtfceljbmdcbciaaDoor
namespace Go.Proofs.YtfceljbmdcbciaaDoor
set_option maxRecDepth 8000
open Go.ChangeShapes Go.WideShapes Go.ChangeAt Go.WideMaps Go.WideElems Go.RowKit

theorem open_lists_caps {H : Type} {enc : TypeId × Value → H} {W : World} {base0 : Nat} {held : Bool} {fuel : Nat} {a0 : Option Addr} {len cap : Nat} {x : DataW H × List MemPlace}
    (hf : DataW.trod enc Tryd.prog W base0 (fun _ => true) held fuel 37 [.slice a0 len cap] = some x) :
    ∀ ad, a0 = some ad → ∀ k, k < len → ∀ Ak nk ck, W.cell? (ad.add k) = some (.slice Ak nk ck) → nk ≤ ck ∧ ck ≤ 9223372036854775807 := by
  rcases Deep.open_slice1 Tryd.underlying37 Tryd.cellsBytes hf with ⟨hcs, _⟩ | ⟨a, len', cap', m, n, V, D, Pl, hcs, _, hlc, hcm, hmm, _, hx⟩
  · simp only [List.cons.injEq, Value.slice.injEq, and_true] at hcs
    obtain ⟨rfl, rfl, rfl⟩ := hcs
    intro ad h
    cases h
  · simp only [List.cons.injEq, Value.slice.injEq, and_true] at hcs
    obtain ⟨rfl, rfl, rfl⟩ := hcs
    have hle : len ≤ m := by rw [hmm]; split <;> omega
    intro ad h k hk Ak nk ck hc
    injection h with h
    subst h
    obtain ⟨h1, h2⟩ := hx k (by omega)
    obtain ⟨A, c, l, e, hb, hlc', hcm'⟩ := open_bytesV h2
    rw [h1, e] at hc
    injection hc with hc
    injection hc with _ e1 e2
    omega
end Go.Proofs.YtfceljbmdcbciaaDoor
