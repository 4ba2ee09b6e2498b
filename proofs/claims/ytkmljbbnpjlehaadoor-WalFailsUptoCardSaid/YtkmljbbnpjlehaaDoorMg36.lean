/- Lists of bytes that came in: each has room for what it holds. No condition. What is done to a log, in memory, and as it came in. No condition. -/
import Derived.Test.YtkmljbbnpjlehaaDoorMg35
import Derived.Test.YtkmljbbnpjlehaaDoorMg16
import Derived.ChangeSlices
import Derived.Carry
import Derived.Deep.Slices
namespace Go.Proofs.YtkmljbbnpjlehaaDoor
set_option maxRecDepth 8000
open Go.ChangeShapes Go.WideShapes Go.ChangeAt Go.WideMaps Go.WideElems Go.RowKit

theorem open_lists_caps {H : Type} {enc : TypeId × Value → H} {W : World} {base0 : Nat} {held : Bool} {fuel : Nat} {a0 : Option Addr} {len cap : Nat} {x : DataW H × List MemPlace}
    (hf : DataW.trod enc Tryd.prog W base0 (fun _ => true) held fuel 37 [.slice a0 len cap] = some x) :
    ∀ ad, a0 = some ad → ∀ k, k < len → ∀ Ak nk ck, W.cell? (ad.add k) = some (.slice Ak nk ck) → nk ≤ ck ∧ ck ≤ 9223372036854775807 := by
  rcases Deep.open_slice1 Tryd.underlying37 Tryd.cellsBytes hf with ⟨hcs, _⟩ | ⟨a, len', cap', m, n, V, D, Pl, hcs, _, hlc, hcm, hmm, _, hx⟩
  · simp only [List.cons.injEq, Value.slice.injEq, and_true] at hcs
    obtain ⟨rfl, rfl, rfl⟩ := hcs
    intro ad h
    cases h
  · simp only [List.cons.injEq, Value.slice.injEq, and_true] at hcs
    obtain ⟨rfl, rfl, rfl⟩ := hcs
    have hle : len ≤ m := by rw [hmm]; split <;> omega
    intro ad h k hk Ak nk ck hc
    injection h with h
    subst h
    obtain ⟨h1, h2⟩ := hx k (by omega)
    obtain ⟨A, c, l, e, hb, hlc', hcm'⟩ := open_bytesV h2
    rw [h1, e] at hc
    injection hc with hc
    injection hc with _ e1 e2
    omega
end Go.Proofs.YtkmljbbnpjlehaaDoor
namespace Go.Proofs.YtkmljbbnpjlehaaDoor
set_option maxRecDepth 8000
open Go.ChangeShapes Go.WideShapes Go.ChangeAt Go.WideMaps Go.WideElems Go.RowKit

namespace Wl
/-- A thing that is done. -/
structure O where
  x : Int
  i : Int
  b : List UInt8
  l : List (List UInt8)
  p : List Bool
end Wl
instance : Inhabited Wl.O := ⟨⟨0, 0, [], [], []⟩⟩
/-- Where its slices lie. -/
structure Wo where
  A : Option Addr
  cA : Nat
  L : Option Addr
  cL : Nat
  G : Option Addr
  cG : Nat
instance : Inhabited Wo := ⟨⟨none, 0, none, 0, none, 0⟩⟩
def woCells (o : Wl.O) (m : Wo) : List Value := [.int .i64 o.x, .int .i64 o.i, .slice m.A o.b.length m.cA, .slice m.L o.l.length m.cL, .slice m.G o.p.length m.cG]
structure WoIn (w : World) (bd : Nat) (o : Wl.O) (m : Wo) : Prop where
  b : BCells w bd m.A o.b
  l : LC w bd m.L o.l
  p : PInB w bd m.G m.cG o.p
  cb : o.b.length ≤ m.cA ∧ m.cA ≤ 9223372036854775807
  cl : o.l.length ≤ m.cL ∧ m.cL ≤ 9223372036854775807
  lq : ∀ b ∈ o.l, b.length ≤ 9223372036854775807
  lp : o.p.length ≤ 9223372036854775807
  i : I64 o.i
theorem WoIn.keep {w w' : World} {bd : Nat} {o : Wl.O} {m : Wo} (h : WoIn w bd o m) (hb : Below bd w w') : WoIn w' bd o m := ⟨h.b.keepB hb (Nat.le_refl _), h.l.keepB hb (Nat.le_refl _), h.p.keep hb, h.cb, h.cl, h.lq, h.lp, h.i⟩
def WosIn (w : World) (bd : Nat) (A : Option Addr) (l : List Wl.O) : Prop :=
  0 < l.length → ∃ b off, A = some ⟨b, off, none⟩ ∧ b < bd ∧ ∀ k (h : k < l.length), ∃ m : Wo, (∀ j v, (woCells l[k] m)[j]? = some v → w.cell? ⟨b, off + (k * 5 + j), none⟩ = some v) ∧ WoIn w bd l[k] m
theorem WosIn.keep {w w' : World} {bd : Nat} {A : Option Addr} {l : List Wl.O} (h : WosIn w bd A l) (hb : Below bd w w') : WosIn w' bd A l := fun hn => by
  obtain ⟨b, off, e, hlt, hc⟩ := h hn
  refine ⟨b, off, e, hlt, fun k hk => ?_⟩
  obtain ⟨m, h1, h2⟩ := hc k hk
  exact ⟨m, fun j v hv => (hb.cell (p := ⟨b, off + (k * 5 + j), none⟩) hlt).trans (h1 j v hv), h2.keep hb⟩

theorem Tryd.cellsBool : Tryd.prog.cellsOf 4 = 1 := by kernel_rfl
theorem Tryd.cellsInt : Tryd.prog.cellsOf 3 = 1 := by kernel_rfl
theorem Tryd.cellsBools : Tryd.prog.cellsOf 38 = 1 := by kernel_rfl
theorem Tryd.cellsLists : Tryd.prog.cellsOf 37 = 1 := by kernel_rfl
theorem Tryd.cellsWo : Tryd.prog.cellsOf 40 = 5 := by kernel_rfl
theorem open_bools2 {H : Type} {enc : TypeId × Value → H} {W : World} {base0 : Nat} {held : Bool} {fuel : Nat} {v : Value} {x : DataW H × List MemPlace}
    (hf : DataW.trod enc Tryd.prog W base0 (fun _ => true) held fuel 38 [v] = some x) :
    ∃ (a0 : Option Addr) (cap : Nat) (l : List Bool), v = .slice a0 l.length cap ∧ PInB W W.heap.size a0 cap l ∧ l.length ≤ 9223372036854775807 := by
  rcases Deep.open_bools Tryd.underlying38 Tryd.underlying4 Tryd.cellsBool hf with ⟨hcs, _⟩ | ⟨a, len, cap, f, hcs, _, hlc, hcm, _, hx⟩
  · simp only [List.cons.injEq, and_true] at hcs
    exact ⟨none, 0, [], hcs, ⟨fun _ => ⟨rfl, rfl⟩, fun h => absurd h (by simp)⟩, by simp⟩
  · simp only [List.cons.injEq, and_true] at hcs
    refine ⟨some a, cap, (List.range len).map f, by rw [hcs]; simp, ⟨(fun h => by cases h), fun hn => ?_⟩, by unfold maxLen at hcm; simp; omega⟩
    have hn' : 0 < len := by simpa using hn
    obtain ⟨b, off, spot⟩ := a
    have hspot : spot = none := by simpa [Addr.add] using World.cell?_spot (hx 0 (by omega))
    subst hspot
    have hadd : ∀ j, (⟨b, off, none⟩ : Addr).add j = ⟨b, off + j, none⟩ := fun j => Addr.add_mid b off j
    refine ⟨b, off, rfl, ?_, fun k hk => ?_⟩
    · have := World.block_lt_of_cell? W _ (hx 0 (by omega))
      rw [hadd] at this
      exact this
    · have hk' : k < len := by simpa using hk
      have := hx k (by omega)
      rw [hadd] at this
      simpa using this


theorem open_listsV {H : Type} {enc : TypeId × Value → H} {W : World} {base0 : Nat} {held : Bool} {fuel : Nat} {v : Value} {x : DataW H × List MemPlace}
    (hf : DataW.trod enc Tryd.prog W base0 (fun _ => true) held fuel 37 [v] = some x) :
    ∃ (A : Option Addr) (c : Nat) (l : List (List UInt8)), v = .slice A l.length c ∧ LC W W.heap.size A l ∧ l.length ≤ c ∧ c ≤ 9223372036854775807 ∧ ∀ b ∈ l, b.length ≤ 9223372036854775807 := by
  have hv : ∃ A n c, v = .slice A n c := by
    rcases Deep.open_slice1 Tryd.underlying37 Tryd.cellsBytes hf with ⟨hcs, _⟩ | ⟨a, len', cap', m, n, V, D, Pl, hcs, _⟩
    · simp only [List.cons.injEq, and_true] at hcs
      exact ⟨none, 0, 0, hcs⟩
    · simp only [List.cons.injEq, and_true] at hcs
      exact ⟨some a, len', cap', hcs⟩
  obtain ⟨A, n, c, rfl⟩ := hv
  obtain ⟨l, h1, h2, h3, h4, h5⟩ := open_lists hf
  subst h1
  exact ⟨A, c, l, rfl, h2, h3, h4, h5⟩
theorem trod_wo {H : Type} {enc : TypeId × Value → H} {W : World} {base0 : Nat} {held : Bool} {fuel : Nat} {cs : List Value} {x : DataW H × List MemPlace} (hlen : cs.length = 5)
    (hf : DataW.trod enc Tryd.prog W base0 (fun _ => true) held fuel 40 cs = some x) : ∃ q : Wl.O × Wo, cs = woCells q.1 q.2 ∧ WoIn W W.heap.size q.1 q.2 := by
  match cs, hlen with
  | [c0, c1, c2, c3, c4], _ =>
    obtain ⟨xs, n, _, _, _, hxl, hx⟩ := DataW.trod_struct Tryd.underlying40 hf
    have h0 := hx 0 _ rfl
    have h1 := hx 1 _ rfl
    have h2 := hx 2 _ rfl
    have h3 := hx 3 _ rfl
    have h4 := hx 4 _ rfl
    simp [Tryd.cellsInt, Tryd.cellsBytes, Tryd.cellsBools, Tryd.cellsLists] at h0 h1 h2 h3 h4
    have hl : xs.length = 5 := hxl
    rw [List.getElem?_eq_getElem (by omega)] at h0 h1 h2 h3 h4
    obtain ⟨z0, e0, _, _⟩ := DataW.trod_int Tryd.underlying3 h0
    obtain ⟨z1, e1, _, hz1⟩ := DataW.trod_int Tryd.underlying3 h1
    obtain ⟨A, ca, l, e2, hb, hlc, hcm⟩ := open_bytesV h2
    obtain ⟨L, cl, ll, e3, hL, hLc, hLm, hLq⟩ := open_listsV h3
    obtain ⟨G, cg, p, e4, hp, hlp⟩ := open_bools2 h4
    simp only [List.cons.injEq, and_true] at e0 e1
    subst e0 e1 e2 e3 e4
    have hb1 := bounds_i64 hz1
    exact ⟨(⟨z0, z1, l, ll, p⟩, ⟨A, ca, L, cl, G, cg⟩), rfl, ⟨hb, hL, hp, ⟨hlc, hcm⟩, ⟨hLc, hLm⟩, hLq, hlp, ⟨hb1.2, hb1.1⟩⟩⟩
theorem open_wos {H : Type} {enc : TypeId × Value → H} {W : World} {base0 : Nat} {held : Bool} {fuel : Nat} {v : Value} {x : DataW H × List MemPlace}
    (hf : DataW.trod enc Tryd.prog W base0 (fun _ => true) held fuel 22 [v] = some x) :
    ∃ (a0 : Option Addr) (cap : Nat) (l : List Wl.O), v = .slice a0 l.length cap ∧ WosIn W W.heap.size a0 l ∧ l.length ≤ 9223372036854775807 := by
  rcases Deep.open_slice Tryd.underlying22 hf with ⟨hcs, _⟩ | ⟨a, len, cap, m, n, D, Pl, hcs, _, hlc, hcm, hmm, _, hx⟩
  · simp only [List.cons.injEq, and_true] at hcs
    exact ⟨none, 0, [], hcs, fun h => absurd h (by simp), by simp⟩
  · simp only [List.cons.injEq, and_true] at hcs
    have hle : len ≤ m := by rw [hmm]; split <;> omega
    have hs : ∀ i, i < len → ∃ q : Wl.O × Wo, (∀ j u, (woCells q.1 q.2)[j]? = some u → W.cell? (a.add (i * 5 + j)) = some u) ∧ WoIn W W.heap.size q.1 q.2 := by
      intro i hi
      obtain ⟨cs', h1, h2⟩ := hx i (by omega)
      rw [Tryd.cellsWo] at h1
      obtain ⟨_, hlen, hcell⟩ := World.cells?_some h1
      obtain ⟨q, hq, hin⟩ := trod_wo hlen h2
      subst hq
      refine ⟨q, fun j u hu => ?_, hin⟩
      have hj : j < 5 := (List.getElem?_eq_some_iff.1 hu).1
      have := hcell j hj
      rw [Deep.add_add] at this
      rw [this]
      exact hu
    obtain ⟨q, hq⟩ := Deep.choose_lt (α := Wl.O × Wo) hs
    refine ⟨some a, cap, (List.range len).map fun i => (q i).1, by rw [hcs]; simp, fun hn => ?_, by unfold maxLen at hcm; simp; omega⟩
    have hn' : 0 < len := by simpa using hn
    obtain ⟨b, off, spot⟩ := a
    have h00 := (hq 0 hn').1 0 _ rfl
    have hspot : spot = none := by simpa [Addr.add] using World.cell?_spot h00
    subst hspot
    have hadd : ∀ j, (⟨b, off, none⟩ : Addr).add j = ⟨b, off + j, none⟩ := fun j => Addr.add_mid b off j
    refine ⟨b, off, rfl, ?_, fun k hk => ?_⟩
    · have := World.block_lt_of_cell? W _ h00
      rw [hadd] at this
      exact this
    · have hk' : k < len := by simpa using hk
      have e : ((List.range len).map fun i => (q i).1)[k] = (q k).1 := by simp
      rw [e]
      refine ⟨(q k).2, fun j v hv => ?_, (hq k hk').2⟩
      have := (hq k hk').1 j v hv
      rw [hadd] at this
      exact this
end Go.Proofs.YtkmljbbnpjlehaaDoor
