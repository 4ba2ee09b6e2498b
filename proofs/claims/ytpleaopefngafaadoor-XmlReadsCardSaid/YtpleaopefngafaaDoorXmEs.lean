/- An element that the document's reading makes, as it lies in memory: its attributes, its kids, its copy into the answer. No condition. -/
import Derived.Test.YtpleaopefngafaaDoorXmGu
import Derived.Test.YtpleaopefngafaaDoorXmEr
import Derived.Test.YtpleaopefngafaaDoorXmUw
namespace Go.Proofs.YtpleaopefngafaaDoor
set_option maxRecDepth 8000
open Go.RowKit

theorem ext_cut {s : ByteArray} {l : List UInt8} (hs : s.data.toList = l) {a b : Nat} (h : a ≤ b) : s.extract a b = S ((l.drop a).take (b - a)) := by
  have := ext_S s a (b - a)
  rw [hs, show a + (b - a) = b by omega] at this
  exact this
/-- The four stores of an element's copy. -/
theorem BN.copy {w : World} {g : Nat} {x0 x1 x2 x3 : Value} (h : BN w g x0 x1 x2 x3) (v0 v1 v2 v3 : Value) :
    w.cell? ⟨g, 0, none⟩ = some x0 ∧ w.frozen? ⟨g, 0, none⟩ = false ∧ (w.setCell ⟨g, 0, none⟩ v0).cell? ⟨g, 1, none⟩ = some x1 ∧ (w.setCell ⟨g, 0, none⟩ v0).frozen? ⟨g, 1, none⟩ = false ∧
    ((w.setCell ⟨g, 0, none⟩ v0).setCell ⟨g, 1, none⟩ v1).cell? ⟨g, 2, none⟩ = some x2 ∧ ((w.setCell ⟨g, 0, none⟩ v0).setCell ⟨g, 1, none⟩ v1).frozen? ⟨g, 2, none⟩ = false ∧
    (((w.setCell ⟨g, 0, none⟩ v0).setCell ⟨g, 1, none⟩ v1).setCell ⟨g, 2, none⟩ v2).cell? ⟨g, 3, none⟩ = some x3 ∧ (((w.setCell ⟨g, 0, none⟩ v0).setCell ⟨g, 1, none⟩ v1).setCell ⟨g, 2, none⟩ v2).frozen? ⟨g, 3, none⟩ = false ∧
    ((((w.setCell ⟨g, 0, none⟩ v0).setCell ⟨g, 1, none⟩ v1).setCell ⟨g, 2, none⟩ v2).setCell ⟨g, 3, none⟩ v3).cell? ⟨g, 0, none⟩ = some v0 ∧
    ((((w.setCell ⟨g, 0, none⟩ v0).setCell ⟨g, 1, none⟩ v1).setCell ⟨g, 2, none⟩ v2).setCell ⟨g, 3, none⟩ v3).cell? ⟨g, 1, none⟩ = some v1 ∧
    ((((w.setCell ⟨g, 0, none⟩ v0).setCell ⟨g, 1, none⟩ v1).setCell ⟨g, 2, none⟩ v2).setCell ⟨g, 3, none⟩ v3).cell? ⟨g, 2, none⟩ = some v2 ∧
    ((((w.setCell ⟨g, 0, none⟩ v0).setCell ⟨g, 1, none⟩ v1).setCell ⟨g, 2, none⟩ v2).setCell ⟨g, 3, none⟩ v3).cell? ⟨g, 3, none⟩ = some v3 :=
  have k1 := h.set0 v0
  have k2 := k1.set1 v1
  have k3 := k2.set2 v2
  have k4 := k3.set3 v3
  ⟨h.c0, h.fr 0, k1.c1, k1.fr 1, k2.c2, k2.fr 2, k3.c3, k3.fr 3, k4.c0, k4.c1, k4.c2, k4.c3⟩
theorem below_copy {H : Nat} {w wr : World} (hb : Below H w wr) {g : Nat} (hg : H ≤ g) (v0 v1 v2 v3 : Value) : Below H w ((((wr.setCell ⟨g, 0, none⟩ v0).setCell ⟨g, 1, none⟩ v1).setCell ⟨g, 2, none⟩ v2).setCell ⟨g, 3, none⟩ v3) :=
  (((hb.setCell (p := ⟨g, 0, none⟩) hg v0).setCell (p := ⟨g, 1, none⟩) hg v1).setCell (p := ⟨g, 2, none⟩) hg v2).setCell (p := ⟨g, 3, none⟩) hg v3
theorem ft_copy {wr : World} {n : Xm.N} {v : Value} {F : List Nat} (h : FT wr n v F) {g : Nat} (hg : g ∉ F) (v0 v1 v2 v3 : Value) : FT ((((wr.setCell ⟨g, 0, none⟩ v0).setCell ⟨g, 1, none⟩ v1).setCell ⟨g, 2, none⟩ v2).setCell ⟨g, 3, none⟩ v3) n v F :=
  FT.keep _ _ _ h ((((Same.set (i := 0) hg v0).trans (Same.set (i := 1) hg v1)).trans (Same.set (i := 2) hg v2)).trans (Same.set (i := 3) hg v3))
theorem size_copy (wr : World) (g : Nat) (v0 v1 v2 v3 : Value) : ((((wr.setCell ⟨g, 0, none⟩ v0).setCell ⟨g, 1, none⟩ v1).setCell ⟨g, 2, none⟩ v2).setCell ⟨g, 3, none⟩ v3).heap.size = wr.heap.size := by simp

/-- What an answer says of the element that is read. -/
def ElLies (o : Option (Xm.N × Xm.Bytes)) (len H : Nat) (w' : World) (v : Value) (x : Int) : Prop :=
  match o with
  | none => x = -1
  | some (n, r) => x = ((len - r.length : Nat) : Int) ∧ ∃ F, FT w' n v F ∧ ∀ b ∈ F, H ≤ b ∧ b < w'.heap.size
def ElPost (o : Option (Xm.N × Xm.Bytes)) (len : Nat) (w : World) (e : Ending) (w' : World) : Prop :=
  ∃ (q0 : ByteArray) (A : Option Addr) (na ca : Nat) (q2 : ByteArray) (K : Option Addr) (nk ck : Nat) (x : Int), e = .returned (.tuple #[.agg #[.string q0, .slice A na ca, .string q2, .slice K nk ck], .int .i64 x]) ∧ Below w.heap.size w w' ∧
    ElLies o len w.heap.size w' (.agg #[.string q0, .slice A na ca, .string q2, .slice K nk ck]) x

/-- Within the attributes. -/
structure EA (w : World) (g6 g8 : Nat) (nm : List UInt8) (ps : List Pct.PairL) (A : Option Addr) (cap : Nat) (wr : World) : Prop where
  b6 : BN wr g6 (.string ⟨#[]⟩) (.slice none 0 0) (.string ⟨#[]⟩) (.slice none 0 0)
  b8 : BN wr g8 (.string (S nm)) (.slice A ps.length cap) (.string ⟨#[]⟩) (.slice none 0 0)
  row : PRow (g8 + 1) wr (.slice A ps.length cap) ps
  bel : Below w.heap.size w wr
  le6 : w.heap.size ≤ g6
  le8 : g6 < g8
/-- Within the kids. -/
structure EK (w : World) (g6 g8 : Nat) (nm tx : List UInt8) (ps : List Pct.PairL) (A : Option Addr) (ca : Nat) (ks : List Xm.N) (K : Option Addr) (ck : Nat) (vs : List Value) (G : List Nat) (wr : World) : Prop where
  b6 : BN wr g6 (.string ⟨#[]⟩) (.slice none 0 0) (.string ⟨#[]⟩) (.slice none 0 0)
  b8 : BN wr g8 (.string (S nm)) (.slice A ps.length ca) (.string (S tx)) (.slice K ks.length ck)
  row : PRow (g8 + 1) wr (.slice A ps.length ca) ps
  kid : wr.ownsRow (g8 + 1) 26 4 (.slice K ks.length ck) ks.length (vs.flatMap cells4)
  ft : FTL wr ks vs G
  lo : ∀ b ∈ G, g8 < b ∧ b < wr.heap.size
  ne : ∀ b ∈ blkOf A ++ G, b ∉ blkOf K
  bel : Below w.heap.size w wr
  le6 : w.heap.size ≤ g6
  le8 : g6 < g8
section
variable {w wr w' : World} {g6 g8 : Nat} {nm tx : List UInt8} {ps : List Pct.PairL} {A : Option Addr} {ca : Nat} {ks : List Xm.N} {K : Option Addr} {ck : Nat} {vs : List Value} {G : List Nat}
theorem EA.next (h : EA w g6 g8 nm ps A ca wr) (hb : Below wr.heap.size wr w') : EA w g6 g8 nm ps A ca w' :=
  ⟨h.b6.next hb, h.b8.next hb, own_below h.row hb, h.bel.trans (hb.mono h.bel.size), h.le6, h.le8⟩
theorem EA.lt (h : EA w g6 g8 nm ps A ca wr) : ∀ k, (Value.slice A ps.length ca).ownBlock = some k → g8 + 1 ≤ k ∧ k < wr.heap.size := fun k hk => World.ownsRow.lt h.row k hk
/-- One more attribute: the row grows, the element's block holds it. -/
theorem EA.push (h : EA w g6 g8 nm ps A ca wr) {p : Pct.PairL} {gg cap2 : Nat} (hrow : w'.ownsRow (g8 + 1) 38 2 (.slice (some ⟨gg, 0, none⟩) (ps.length + 1) cap2) (ps.length + 1) (cells2 ps ++ [.string (S p.1), .string (S p.2)]))
    (hgrow : wr.grownBy w' (Value.slice A ps.length ca).ownBlock) : EA w g6 g8 nm (ps ++ [p]) (some ⟨gg, 0, none⟩) cap2 (w'.setCell ⟨g8, 1, none⟩ (.slice (some ⟨gg, 0, none⟩) (ps.length + 1) cap2)) := by
  have h6 := h.b6.grown hgrow (fun e => by have := (h.lt g6 e).1; have := h.le8; omega)
  have h8 := h.b8.grown hgrow (fun e => by have := (h.lt g8 e).1; omega)
  have hp := prow_snoc (q := p) hrow
  have hle6 := h.le6
  have hle8 := h.le8
  refine ⟨h6.far (by omega) _, ?_, ?_, ?_, h.le6, h.le8⟩
  · have := h8.set1 (.slice (some ⟨gg, 0, none⟩) (ps.length + 1) cap2)
    rw [List.length_append]
    exact this
  · refine own_set_ne hp (fun e => ?_) _
    have := (World.ownsRow.lt hp g8 e).1
    omega
  · exact (h.bel.grown hgrow h.bel.size (fun k hk => by have := (h.lt k hk).1; omega)).setCell (p := ⟨g8, 1, none⟩) (by show w.heap.size ≤ g8; omega) _
/-- The text is laid: no kid yet. -/
theorem EA.text (h : EA w g6 g8 nm ps A ca wr) (tx : List UInt8) : EK w g6 g8 nm tx ps A ca [] none 0 [] [] (wr.setCell ⟨g8, 2, none⟩ (.string (S tx))) := by
  have hle6 := h.le6
  have hle8 := h.le8
  refine ⟨h.b6.far (by omega) _, h.b8.set2 _, ?_, World.ownsRow_nil _ _ _ _, by unfold FTL; exact ⟨rfl, rfl⟩, fun b hb => absurd hb (by simp), fun b _ hb => absurd hb (by simp [blkOf]), ?_, h.le6, h.le8⟩
  · refine own_set_ne h.row (fun e => ?_) _
    have := (h.lt g8 e).1
    omega
  · exact h.bel.setCell (p := ⟨g8, 2, none⟩) (by show w.heap.size ≤ g8; omega) _
theorem EK.ltA (h : EK w g6 g8 nm tx ps A ca ks K ck vs G wr) : ∀ b ∈ blkOf A, g8 < b ∧ b < wr.heap.size := by
  intro b hb
  cases A with
  | none => simp [blkOf] at hb
  | some a =>
    simp only [blkOf, List.mem_singleton] at hb
    have := World.ownsRow.lt h.row a.block rfl
    rw [hb]
    omega
theorem EK.ltK (h : EK w g6 g8 nm tx ps A ca ks K ck vs G wr) : ∀ b ∈ blkOf K, g8 < b ∧ b < wr.heap.size := by
  intro b hb
  cases K with
  | none => simp [blkOf] at hb
  | some a =>
    simp only [blkOf, List.mem_singleton] at hb
    have := World.ownsRow.lt h.kid a.block rfl
    rw [hb]
    omega
theorem EK.next (h : EK w g6 g8 nm tx ps A ca ks K ck vs G wr) (hb : Below wr.heap.size wr w') : EK w g6 g8 nm tx ps A ca ks K ck vs G w' :=
  ⟨h.b6.next hb, h.b8.next hb, own_below h.row hb, own_below h.kid hb, FTL.keep _ _ _ h.ft (Same.below hb (fun b hb => (h.lo b hb).2)), fun b hb' => ⟨(h.lo b hb').1, Nat.lt_of_lt_of_le (h.lo b hb').2 hb.size⟩, h.ne, h.bel.trans (hb.mono h.bel.size), h.le6, h.le8⟩
/-- One more kid. -/
theorem EK.push (h : EK w g6 g8 nm tx ps A ca ks K ck vs G wr) {n : Xm.N} {v : Value} {Fn : List Nat} (hn : FT wr n v Fn) (hlo : ∀ b ∈ Fn, g8 < b ∧ b < wr.heap.size) (hne : ∀ b ∈ Fn, b ∉ blkOf K) {gg cap2 : Nat}
    (hrow : w'.ownsRow (g8 + 1) 26 4 (.slice (some ⟨gg, 0, none⟩) (ks.length + 1) cap2) (ks.length + 1) (vs.flatMap cells4 ++ cells4 v))
    (hgrow : wr.grownBy w' (Value.slice K ks.length ck).ownBlock) (hat : (Value.slice K ks.length ck).ownBlock = some gg ∨ gg = wr.heap.size) :
    EK w g6 g8 nm tx ps A ca (ks ++ [n]) (some ⟨gg, 0, none⟩) cap2 (vs ++ [v]) (G ++ Fn) (w'.setCell ⟨g8, 3, none⟩ (.slice (some ⟨gg, 0, none⟩) (ks.length + 1) cap2)) := by
  have hle6 := h.le6
  have hle8 := h.le8
  have hKo : ∀ b, (Value.slice K ks.length ck).ownBlock = some b → b ∈ blkOf K := by
    intro b hb
    cases K with
    | none => simp [Value.ownBlock] at hb
    | some a =>
      simp only [Value.ownBlock, Option.some.injEq] at hb
      simp [blkOf, hb]
  have hlt : ∀ b, (Value.slice K ks.length ck).ownBlock = some b → g8 < b ∧ b < wr.heap.size := fun b hb => h.ltK b (hKo b hb)
  have h6 := h.b6.grown hgrow (fun e => by have := (hlt g6 e).1; omega)
  have h8 := h.b8.grown hgrow (fun e => by have := (hlt g8 e).1; omega)
  have hall : ∀ b ∈ blkOf A ++ (G ++ Fn), g8 < b ∧ b < wr.heap.size := by
    intro b hb
    rcases List.mem_append.1 hb with hb | hb
    · exact h.ltA b hb
    rcases List.mem_append.1 hb with hb | hb
    · exact h.lo b hb
    · exact hlo b hb
  have hnK : ∀ b ∈ blkOf A ++ (G ++ Fn), b ∉ blkOf K := by
    intro b hb
    rcases List.mem_append.1 hb with hb | hb
    · exact h.ne b (List.mem_append_left _ hb)
    rcases List.mem_append.1 hb with hb | hb
    · exact h.ne b (List.mem_append_right _ hb)
    · exact hne b hb
  have hs0 : Same (blkOf A ++ (G ++ Fn)) wr w' := Same.grown hgrow (fun b hb => (hall b hb).2) (fun b hb e => hnK b hb (hKo b e))
  have hg8 : g8 ∉ blkOf A ++ (G ++ Fn) := fun hm => absurd (hall g8 hm).1 (Nat.lt_irrefl _)
  have hs := hs0.trans (Same.set (i := 3) hg8 (.slice (some ⟨gg, 0, none⟩) (ks.length + 1) cap2))
  have hsz : (w'.setCell ⟨g8, 3, none⟩ (.slice (some ⟨gg, 0, none⟩) (ks.length + 1) cap2)).heap.size = w'.heap.size := by simp
  refine ⟨h6.far (by omega) _, ?_, ?_, ?_, ?_, ?_, ?_, ?_, h.le6, h.le8⟩
  · have := h8.set3 (.slice (some ⟨gg, 0, none⟩) (ks.length + 1) cap2)
    rw [List.length_append]
    exact this
  · unfold PRow
    have e := h.row
    unfold PRow at e
    exact own_same e hs.left
  · have e : (vs ++ [v]).flatMap cells4 = vs.flatMap cells4 ++ cells4 v := by simp
    rw [e, List.length_append]
    refine own_set_ne hrow (fun e => ?_) _
    have := (World.ownsRow.lt hrow g8 e).1
    omega
  · exact FTL.join _ _ _ _ _ _ (FTL.keep _ _ _ h.ft hs.right.left) (FTL.one.2 (FT.keep _ _ _ hn hs.right.right))
  · intro b hb
    have := hall b (List.mem_append_right _ hb)
    have := hgrow.size
    rw [hsz]
    omega
  · intro b hb
    rcases hat with e | e
    · have h1 := hnK b hb
      have h2 := hKo gg e
      intro hm
      simp only [blkOf, List.mem_singleton] at hm
      rw [hm] at h1
      exact h1 h2
    · intro hm
      simp only [blkOf, List.mem_singleton] at hm
      have := (hall b hb).2
      omega
  · exact (h.bel.grown hgrow h.bel.size (fun k hk => by have := (hlt k hk).1; omega)).setCell (p := ⟨g8, 3, none⟩) (by show w.heap.size ≤ g8; omega) _
/-- The element with all of its kids. -/
theorem EK.whole (h : EK w g6 g8 nm tx ps A ca ks K ck vs G wr) : FT wr (.mk nm ps tx ks) (.agg #[.string (S nm), .slice A ps.length ca, .string (S tx), .slice K ks.length ck]) (blkOf A ++ (blkOf K ++ G)) ∧ ∀ b ∈ blkOf A ++ (blkOf K ++ G), g8 < b ∧ b < wr.heap.size := by
  refine ⟨?_, fun b hb => ?_⟩
  · unfold FT
    exact ⟨A, ca, K, ck, vs, G, rfl, rfl, pcells_of h.row, own_monoB h.kid (Nat.zero_le _), h.ft⟩
  · rcases List.mem_append.1 hb with hb | hb
    · exact h.ltA b hb
    rcases List.mem_append.1 hb with hb | hb
    · exact h.ltK b hb
    · exact h.lo b hb
end
end Go.Proofs.YtpleaopefngafaaDoor
