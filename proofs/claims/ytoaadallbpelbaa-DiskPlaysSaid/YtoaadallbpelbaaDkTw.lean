/- Two disks side by side, the program's and the document's own: where each call leaves both. Conditions: at most 1048575 blocks staged. -/
import Derived.Test.YtoaadallbpelbaaDkRd
import Derived.Test.YtoaadallbpelbaaDkHd
namespace Go.Proofs.Ytoaadallbpelbaa
set_option maxRecDepth 8000
open Go.RowKit

def HR (F : Nat → Prop) (w : World) (Q : Nat) (d : Dk.D) : Prop := ∃ b : Rm, b.P = Q ∧ RAt w b d ∧ RThere w b ∧ Sep b ∧ ∀ x ∈ b.F, F x
/-- Both disks, in blocks apart; the blocks of X are none of theirs. -/
def Two (X : List Nat) (base : Nat) (w : World) (P Q : Nat) (d1 d2 : Dk.D) : Prop :=
  ∃ Fa Fb : Nat → Prop, HD Fa w P d1 ∧ HR Fb w Q d2 ∧ (∀ x, Fa x → base ≤ x ∧ x < w.heap.size) ∧ (∀ x, Fb x → base ≤ x ∧ x < w.heap.size) ∧ (∀ x, Fa x → ¬ Fb x) ∧ ∀ x ∈ X, x < w.heap.size ∧ ¬ Fa x ∧ ¬ Fb x
section
variable {X : List Nat} {base : Nat} {w w' : World} {P Q : Nat} {d1 d2 d' : Dk.D}
theorem Two.fst (h : Two X base w P Q d1 d2) : ∃ Fa : Nat → Prop, HD Fa w P d1 ∧ (∀ x, Fa x → base ≤ x) ∧ ∀ w' d', HD (Or Fa w.heap.size w'.heap.size) w' P d' ∧ OutP Fa w w' → base ≤ w.heap.size → Two X base w' P Q d' d2 ∧ Below base w w' ∧ SameX X w w' := by
  obtain ⟨Fa, Fb, h1, ⟨b, e, r1, r2, r3, r4⟩, h3, h4, h5, h6⟩ := h
  refine ⟨Fa, h1, fun x hx => (h3 x hx).1, fun w' d' ⟨g1, g2⟩ hb => ⟨⟨Or Fa w.heap.size w'.heap.size, Fb, g1, ⟨b, e, r1.same (fun x hx => g2.block x (r2.all x hx) (fun hf => h5 x hf (r4 x hx))), r2.more g2.size, r3, r4⟩, fun x hx => ?_, fun x hx => ⟨(h4 x hx).1, Nat.lt_of_lt_of_le (h4 x hx).2 g2.size⟩, fun x hx hfb => ?_, fun x hx => ⟨Nat.lt_of_lt_of_le (h6 x hx).1 g2.size, fun hfa => ?_, (h6 x hx).2.2⟩⟩, g2.below (fun x hx => (h3 x hx).1) hb, fun x hx => g2.block x (h6 x hx).1 (h6 x hx).2.1⟩⟩
  · rcases hx with hx | hx
    · exact ⟨(h3 x hx).1, Nat.lt_of_lt_of_le (h3 x hx).2 g2.size⟩
    · exact ⟨Nat.le_trans hb hx.1, hx.2⟩
  · rcases hx with hx | hx
    · exact h5 x hx hfb
    · have := (h4 x hfb).2
      omega
  · rcases hfa with hfa | hfa
    · exact (h6 x hx).2.1 hfa
    · have := (h6 x hx).1
      omega
theorem Two.snd (h : Two X base w P Q d1 d2) : ∃ b : Rm, b.P = Q ∧ RAt w b d2 ∧ RThere w b ∧ Sep b ∧ (∀ x ∈ b.F, base ≤ x) ∧ (∀ x ∈ b.F, x ∉ X) ∧ ∀ w' d', RStep w b d' w' → base ≤ w.heap.size → Two X base w' P Q d1 d' ∧ Below base w w' ∧ SameX X w w' := by
  obtain ⟨Fa, Fb, h1, ⟨b, e, r1, r2, r3, r4⟩, h3, h4, h5, h6⟩ := h
  refine ⟨b, e, r1, r2, r3, fun x hx => (h4 x (r4 x hx)).1, fun x hx hX => (h6 x hX).2.2 (r4 x hx), fun w' d' ⟨b', p', a', t', s', o', f'⟩ hb => ⟨⟨Fa, Or Fb w.heap.size w'.heap.size, h1.out o' (fun x _ hfa hx => h5 x hfa (r4 x hx)), ⟨b', p'.trans e, a', t', s', fun x hx => ?_⟩, fun x hx => ⟨(h3 x hx).1, Nat.lt_of_lt_of_le (h3 x hx).2 o'.size⟩, fun x hx => ?_, fun x hx hfb => ?_, fun x hx => ⟨Nat.lt_of_lt_of_le (h6 x hx).1 o'.size, (h6 x hx).2.1, fun hfb => ?_⟩⟩, o'.below (fun x hx => (h4 x (r4 x hx)).1) hb, fun x hx => o'.block x (h6 x hx).1 (fun hm => (h6 x hx).2.2 (r4 x hm))⟩⟩
  · rcases f' x hx with h | h
    · exact .inl (r4 x h)
    · exact .inr ⟨h, t'.all x hx⟩
  · rcases hx with hx | hx
    · exact ⟨(h4 x hx).1, Nat.lt_of_lt_of_le (h4 x hx).2 o'.size⟩
    · exact ⟨Nat.le_trans hb hx.1, hx.2⟩
  · rcases hfb with hfb | hfb
    · exact h5 x hx hfb
    · have := (h3 x hx).2
      omega
  · rcases hfb with hfb | hfb
    · exact (h6 x hx).2.2 hfb
    · have := (h6 x hx).1
      omega
/-- A block that is made beside both. -/
theorem Two.add (h : Two X base w P Q d1 d2) (hb : Below w.heap.size w w') (Y : List Nat) (hY : ∀ y ∈ Y, w.heap.size ≤ y ∧ y < w'.heap.size) : Two (Y ++ X) base w' P Q d1 d2 := by
  obtain ⟨Fa, Fb, h1, ⟨b, e, r1, r2, r3, r4⟩, h3, h4, h5, h6⟩ := h
  refine ⟨Fa, Fb, h1.keep hb, ⟨b, e, r1.same (fun x hx => hb.block x (r2.all x hx)), r2.more hb.size, r3, r4⟩, fun x hx => ⟨(h3 x hx).1, Nat.lt_of_lt_of_le (h3 x hx).2 hb.size⟩, fun x hx => ⟨(h4 x hx).1, Nat.lt_of_lt_of_le (h4 x hx).2 hb.size⟩, h5, fun x hx => ?_⟩
  rcases List.mem_append.1 hx with hx | hx
  · refine ⟨(hY x hx).2, fun hf => ?_, fun hf => ?_⟩
    · have h1 := (h3 x hf).2
      have h2 := (hY x hx).1
      omega
    · have h1 := (h4 x hf).2
      have h2 := (hY x hx).1
      omega
  · exact ⟨Nat.lt_of_lt_of_le (h6 x hx).1 hb.size, (h6 x hx).2⟩
theorem Two.keep (h : Two X base w P Q d1 d2) (hb : Below w.heap.size w w') : Two X base w' P Q d1 d2 := h.add hb [] (fun y hy => by cases hy)
theorem Two.sub {Y : List Nat} (h : Two X base w P Q d1 d2) (hs : ∀ x ∈ Y, x ∈ X) : Two Y base w P Q d1 d2 := by
  obtain ⟨Fa, Fb, h1, h2, h3, h4, h5, h6⟩ := h
  exact ⟨Fa, Fb, h1, h2, h3, h4, h5, fun x hx => h6 x (hs x hx)⟩
theorem Two.hd (h : Two X base w P Q d1 d2) : ∃ F, HD F w P d1 := by
  obtain ⟨Fa, _, h1, _⟩ := h
  exact ⟨Fa, h1⟩
theorem two_made {w1 w2 : World} {d : Dk.D} {e1 e2 : Ending} (hd : d.st = []) (hb : base ≤ w.heap.size) (h1 : MadePost w d e1 w1) (h2 : MadeR w1 d e2 w2) : ∃ P Q, e1 = .returned (.pointer (some ⟨P, 0, none⟩)) ∧ e2 = .returned (.pointer (some ⟨Q, 0, none⟩)) ∧ Two [] base w2 P Q d d ∧ Below w.heap.size w w2 := by
  obtain ⟨a, e1, a1, t1, b1, f1⟩ := h1
  obtain ⟨b, e2, r1, r2, b2, f2⟩ := h2
  refine ⟨a.P, b.P, e1, e2, ⟨fun x => x ∈ a.F, fun x => x ∈ b.F, HD.keep ⟨a, rfl, a1, t1, fun x hx => hx⟩ b2, ⟨b, rfl, r1, r2, ?_, fun x hx => hx⟩, fun x hx => ⟨Nat.le_trans hb (f1 x hx), Nat.lt_of_lt_of_le (t1.all x hx) b2.size⟩, fun x hx => ⟨Nat.le_trans hb (Nat.le_trans b1.size (f2 x hx)), r2.all x hx⟩, fun x hx hx2 => ?_, fun x hx => by cases hx⟩, b1.trans (b2.mono b1.size)⟩
  · have hg : b.gs.length = 0 := by rw [r1.gl, hd]; rfl
    intro x hx
    rw [List.eq_nil_of_length_eq_zero hg] at hx
    cases hx
  · have h1 := t1.all x hx
    have h2 := f2 x hx2
    omega
end
def IntTw (X : List Nat) (base : Nat) (w : World) (P Q : Nat) (x : Int) (d1 d2 : Dk.D) (e : Ending) (w' : World) : Prop := e = .returned (.int .i64 x) ∧ Two X base w' P Q d1 d2 ∧ Below base w w' ∧ SameX X w w'
def NoTw (X : List Nat) (base : Nat) (w : World) (P Q : Nat) (d1 d2 : Dk.D) (e : Ending) (w' : World) : Prop := e = .returned (.tuple #[]) ∧ Two X base w' P Q d1 d2 ∧ Below base w w' ∧ SameX X w w'
section
variable {X : List Nat} {base : Nat} {w : World} {P Q : Nat} {d1 d2 : Dk.D}
theorem do_tw (h : Two X base w P Q d1 d2) (hb : base ≤ w.heap.size) (o : Dk.O) (m : Om) (hst : d1.st.length ≤ 1048575) (ho : OpIn w base o m) (hp1 : o.p.length ≤ 1048576) :
    Calls Try.prog 13 #[.pointer (some ⟨P, 0, none⟩), .agg (opCells o m).toArray] w (IntTw X base w P Q (d1.exE o) (d1.ex o) d2) := by
  obtain ⟨Fa, h1, h2, h3⟩ := h.fst
  exact (do_hd Fa base w P d1 o m h1 h2 hb hst ho hp1).mono (by rintro e w' ⟨rfl, hs⟩; exact ⟨rfl, h3 w' _ hs hb⟩)
theorem bin_far {bd : Nat} {A : Option Addr} {l : List UInt8} {b : Rm} (hA : BInB w bd A l) (hF : ∀ x ∈ b.F, bd ≤ x) : 0 < l.length → ∀ ad, A = some ad → ad.block ∉ b.F := fun hn ad e hx => by
  obtain ⟨bb, off, e2, hlt, _⟩ := hA hn
  rw [e] at e2
  injection e2 with e2
  have h5 := hF _ hx
  rw [e2] at h5
  dsimp only at h5
  omega
theorem write_tw (h : Two X base w P Q d1 d2) (hb : base ≤ w.heap.size) (hst : d2.st.length ≤ 1048575) (i : Int) (A : Option Addr) (cap : Nat) (l : List UInt8) (hl : l.length ≤ 9223372036854775807) (hA : BInB w base A l) :
    Calls Try.prog 14 #[.pointer (some ⟨Q, 0, none⟩), .int .i64 i, .slice A l.length cap] w (IntTw X base w P Q (d2.writeE i l) d1 (d2.write i l)) := by
  obtain ⟨b, rfl, r1, r2, r3, r4, _, r5⟩ := h.snd
  exact (ref_write_any w b d2 i A cap l r1 r2 r3 hst hl (hA.bin hb) (bin_far hA r4)).mono (by rintro e w' ⟨rfl, hs⟩; exact ⟨rfl, r5 w' _ hs hb⟩)
theorem sync_tw (h : Two X base w P Q d1 d2) (hb : base ≤ w.heap.size) (hst : d2.st.length ≤ 1048576) :
    Calls Try.prog 15 #[.pointer (some ⟨Q, 0, none⟩)] w (IntTw X base w P Q d2.syncE d1 d2.sync) := by
  obtain ⟨b, rfl, r1, r2, r3, r4, _, r5⟩ := h.snd
  exact (ref_sync_any w b d2 r1 r2 r3 hst).mono (by rintro e w' ⟨rfl, hs⟩; exact ⟨rfl, r5 w' _ hs hb⟩)
theorem drop_tw (h : Two X base w P Q d1 d2) (hb : base ≤ w.heap.size) : Calls Try.prog 16 #[.pointer (some ⟨Q, 0, none⟩)] w (NoTw X base w P Q d1 d2.drop) := by
  obtain ⟨b, rfl, r1, r2, r3, r4, _, r5⟩ := h.snd
  exact (ref_drop_any w b d2 r1 r2 r3).mono (by rintro e w' ⟨rfl, hs⟩; exact ⟨rfl, r5 w' _ hs hb⟩)
theorem stop_tw (h : Two X base w P Q d1 d2) (hb : base ≤ w.heap.size) (n : Int) (hn : I64 n) : Calls Try.prog 18 #[.pointer (some ⟨Q, 0, none⟩), .int .i64 n] w (NoTw X base w P Q d1 (d2.stop n)) := by
  obtain ⟨b, rfl, r1, r2, r3, r4, _, r5⟩ := h.snd
  exact (ref_stop_any w b d2 n hn r1 r2 r3).mono (by rintro e w' ⟨rfl, hs⟩; exact ⟨rfl, r5 w' _ hs hb⟩)
theorem crash_tw (h : Two X base w P Q d1 d2) (hb : base ≤ w.heap.size) (hst : d2.st.length ≤ 1048576) (A : Option Addr) (cap : Nat) (l : List UInt8) (hl : l.length ≤ 9223372036854775807) (hA : BInB w base A l) :
    Calls Try.prog 17 #[.pointer (some ⟨Q, 0, none⟩), .slice A l.length cap] w (NoTw X base w P Q d1 (d2.crash l)) := by
  obtain ⟨b, rfl, r1, r2, r3, r4, _, r5⟩ := h.snd
  exact (ref_crash_any w b d2 A cap l r1 r2 r3 hst hl (hA.bin hb) (bin_far hA r4)).mono (by rintro e w' ⟨rfl, hs⟩; exact ⟨rfl, r5 w' _ hs hb⟩)
/-- The plan is set, to bools of the call's own. -/
theorem r_plan {b : Rm} {d : Dk.D} {w1 : World} (h : RAt w b d) (ht : RThere w b) (hsep : Sep b) (hb : Below w.heap.size w w1) (G : Option Addr) (cG : Nat) (p : List Bool) (hp : BoC w1 G p) (hcap : p.length ≤ cG ∧ cG ≤ 9223372036854775807) (hG : ∀ x ∈ blkOf G, w.heap.size ≤ x ∧ x < w1.heap.size) :
    RStep w b { d with plan := p } (w1.setCell ⟨b.P, 2, none⟩ (.slice G p.length cG)) := by
  have h1 : RAt w1 b d := h.same (fun x hx => hb.block x (ht.all x hx))
  have t1 : RThere w1 b := ht.more hb.size
  have hs : ∀ x, x < w1.heap.size → x ≠ b.P → (w1.setCell ⟨b.P, 2, none⟩ (.slice G p.length cG)).heap[x]? = w1.heap[x]? := fun x _ hx => setP_other w1 b.P 2 _ x hx
  refine ⟨{ b with G := G, cG := cG, lf := b.lf }, rfl, h1.setP (d' := { d with plan := p }) t1 G cG b.lf rfl rfl rfl ⟨h.ok.n, h.ok.kept, h.ok.st⟩ (setP_heap h1.disk 2 _) hs (hp.past h1.disk (by decide) hs) hcap h.left, ⟨fun x hx => ?_⟩, hsep, (OutP.of (F := fun x => x ∈ b.F) hb).set _ (rbmem.1 rfl), rsub_G (fun x hx => .inr (hG x hx).1)⟩
  rw [World.size_setCell]
  exact (rthere_G t1 (fun x hx => (hG x hx).2)).all x hx
end
end Go.Proofs.Ytoaadallbpelbaa
