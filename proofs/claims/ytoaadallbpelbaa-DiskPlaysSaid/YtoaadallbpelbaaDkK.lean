/- The disk's calls, where several disks lie beside one another: which blocks may change is told by a predicate. No condition. -/
import Derived.Test.YtoaadallbpelbaaDkSt
namespace Go.Proofs.Ytoaadallbpelbaa
set_option maxRecDepth 8000
open Go.RowKit

/-- But for the blocks of F all that was there is as it was. -/
structure OutP (F : Nat → Prop) (w w' : World) : Prop where
  os : w'.os = w.os
  tape : w'.tape = w.tape
  output : w'.output = w.output
  size : w.heap.size ≤ w'.heap.size
  block : ∀ b, b < w.heap.size → ¬ F b → w'.heap[b]? = w.heap[b]?
theorem OutP.of {F : Nat → Prop} {w w' : World} (h : Below w.heap.size w w') : OutP F w w' := ⟨h.os, h.tape, h.output, h.size, fun b hb _ => h.block b hb⟩
theorem OutP.refl (F : Nat → Prop) (w : World) : OutP F w w := OutP.of (Below.refl _ _)
theorem OutP.mono {F G : Nat → Prop} {w w' : World} (h : OutP F w w') (hs : ∀ x, F x → G x) : OutP G w w' := ⟨h.os, h.tape, h.output, h.size, fun b hb hn => h.block b hb (fun hx => hn (hs b hx))⟩
theorem OutP.trans {F G H : Nat → Prop} {w w1 w2 : World} (h : OutP F w w1) (k : OutP G w1 w2) (hF : ∀ x, x < w.heap.size → F x → H x) (hG : ∀ x, x < w.heap.size → G x → H x) : OutP H w w2 :=
  ⟨k.os.trans h.os, k.tape.trans h.tape, k.output.trans h.output, Nat.le_trans h.size k.size, fun b hb hn => (k.block b (Nat.lt_of_lt_of_le hb h.size) (fun hx => hn (hG b hb hx))).trans (h.block b hb (fun hx => hn (hF b hb hx)))⟩
theorem OutP.below {F : Nat → Prop} {w w' : World} {base : Nat} (h : OutP F w w') (hF : ∀ x, F x → base ≤ x) (hb : base ≤ w.heap.size) : Below base w w' :=
  ⟨h.os, h.tape, h.output, h.size, fun b hlt => h.block b (by omega) (fun hx => absurd (hF b hx) (by omega))⟩
/-- A disk at P, whose blocks are of F. -/
def HD (F : Nat → Prop) (w : World) (P : Nat) (d : Dk.D) : Prop := ∃ a : Mm, a.P = P ∧ DAt w a d ∧ There w a ∧ ∀ x ∈ a.F, F x
/-- Behind a step it may have new blocks. -/
def Or (F : Nat → Prop) (s t : Nat) : Nat → Prop := fun x => F x ∨ s ≤ x ∧ x < t
theorem HD.ok {F : Nat → Prop} {w : World} {P : Nat} {d : Dk.D} (h : HD F w P d) : Dk.Ok d := by
  obtain ⟨a, _, h1, _, _⟩ := h
  exact h1.ok
theorem HD.sd {F : Nat → Prop} {w : World} {P : Nat} {d : Dk.D} (h : HD F w P d) : SD 0 w P d := by
  obtain ⟨a, p, h1, h2, _⟩ := h
  exact ⟨a, p, h1, h2, fun _ _ => Nat.zero_le _⟩
theorem HD.out {F G : Nat → Prop} {w w' : World} {P : Nat} {d : Dk.D} (h : HD F w P d) (ho : OutP G w w') (hs : ∀ x, x < w.heap.size → F x → ¬ G x) : HD F w' P d := by
  obtain ⟨a, p, h1, h2, h3⟩ := h
  exact ⟨a, p, h1.same (fun b hb => ho.block b (h2.all b hb) (hs b (h2.all b hb) (h3 b hb))), h2.more ho.size, h3⟩
theorem HD.keep {F : Nat → Prop} {w w' : World} {P : Nat} {d : Dk.D} (h : HD F w P d) (hb : Below w.heap.size w w') : HD F w' P d := h.out (G := fun _ => False) (OutP.of hb) (fun _ _ _ h => h)
theorem HD.mono {F G : Nat → Prop} {w : World} {P : Nat} {d : Dk.D} (h : HD F w P d) (hs : ∀ x, F x → G x) : HD G w P d := by
  obtain ⟨a, p, h1, h2, h3⟩ := h
  exact ⟨a, p, h1, h2, fun x hx => hs x (h3 x hx)⟩
theorem SD.hd {base : Nat} {w : World} {P : Nat} {d : Dk.D} (h : SD base w P d) : HD (fun x => base ≤ x ∧ x < w.heap.size) w P d := by
  obtain ⟨a, p, h1, h2, h3⟩ := h
  exact ⟨a, p, h1, h2, fun x hx => ⟨h3 x hx, h2.all x hx⟩⟩
theorem Step.hd {F : Nat → Prop} {w w' : World} {a : Mm} {d' : Dk.D} (h : Step w a d' w') (hF : ∀ x ∈ a.F, F x) : HD (Or F w.heap.size w'.heap.size) w' a.P d' ∧ OutP F w w' := by
  obtain ⟨a', p, _, at', t', o, f⟩ := h
  refine ⟨⟨a', p, at', t', fun x hx => (f x hx).imp (hF x) (fun h => ⟨h, t'.all x hx⟩)⟩, ⟨o.os, o.tape, o.output, o.size, fun b hb hn => o.block b hb (fun hm => hn (hF b hm))⟩⟩
def IntHD (F : Nat → Prop) (w : World) (P : Nat) (x : Int) (d' : Dk.D) (e : Ending) (w' : World) : Prop := e = .returned (.int .i64 x) ∧ HD (Or F w.heap.size w'.heap.size) w' P d' ∧ OutP F w w'
def NoHD (F : Nat → Prop) (w : World) (P : Nat) (d' : Dk.D) (e : Ending) (w' : World) : Prop := e = .returned (.tuple #[]) ∧ HD (Or F w.heap.size w'.heap.size) w' P d' ∧ OutP F w w'
section
variable {F : Nat → Prop} {w : World} {P : Nat} {d : Dk.D}
theorem sync_hd (h : HD F w P d) (hst : d.st.length ≤ 1048576) : Calls Try.prog 32 #[.pointer (some ⟨P, 0, none⟩)] w (IntHD F w P d.syncE d.sync) := by
  obtain ⟨a, rfl, h1, h2, h3⟩ := h
  exact (sync_any w a d h1 h2 hst).mono (by rintro e w' ⟨rfl, hs⟩; exact ⟨rfl, hs.hd h3⟩)
theorem faults_hd (h : HD F w P d) (A : Option Addr) (cap : Nat) (p : List Bool) (hp : PlanIn w A cap p) : Calls Try.prog 31 #[.pointer (some ⟨P, 0, none⟩), .slice A p.length cap] w (NoHD F w P { d with plan := p }) := by
  obtain ⟨a, rfl, h1, h2, h3⟩ := h
  exact (faults_any w a d A cap p h1 h2 hp).mono (by rintro e w' ⟨rfl, hs⟩; exact ⟨rfl, hs.hd h3⟩)
theorem crash_hd (h : HD F w P d) (hst : d.st.length ≤ 1048576) (A : Option Addr) (cap : Nat) (l : List UInt8) (hl : l.length ≤ 9223372036854775807) (hA : BIn w A l) (hF : 0 < l.length → ∀ ad, A = some ad → ¬ F ad.block) :
    Calls Try.prog 30 #[.pointer (some ⟨P, 0, none⟩), .slice A l.length cap] w (NoHD F w P (d.crash l)) := by
  obtain ⟨a, rfl, h1, h2, h3⟩ := h
  exact (crash_any w a d A cap l h1 h2 hst hl hA (fun hn ad e hx => hF hn ad e (h3 _ hx))).mono (by rintro e w' ⟨rfl, hs⟩; exact ⟨rfl, hs.hd h3⟩)
theorem write_hd (h : HD F w P d) (hst : d.st.length ≤ 1048575) (i : Int) (A : Option Addr) (cap : Nat) (l : List UInt8) (hl : l.length ≤ 9223372036854775807) (hA : BIn w A l) (hF : 0 < l.length → ∀ ad, A = some ad → ¬ F ad.block) :
    Calls Try.prog 33 #[.pointer (some ⟨P, 0, none⟩), .int .i64 i, .slice A l.length cap] w (IntHD F w P (d.writeE i l) (d.write i l)) := by
  obtain ⟨a, rfl, h1, h2, h3⟩ := h
  exact (write_any w a d i A cap l h1 h2 hst hl hA (fun hn ad e hx => hF hn ad e (h3 _ hx))).mono (by rintro e w' ⟨rfl, hs⟩; exact ⟨rfl, hs.hd h3⟩)
theorem drop_hd (h : HD F w P d) : Calls Try.prog 34 #[.pointer (some ⟨P, 0, none⟩)] w (NoHD F w P d.drop) := by
  obtain ⟨a, rfl, h1, h2, h3⟩ := h
  exact (drop_any w a d h1 h2).mono (by rintro e w' ⟨rfl, hs⟩; exact ⟨rfl, hs.hd h3⟩)
theorem stop_hd (h : HD F w P d) (n : Int) (hn : I64 n) : Calls Try.prog 35 #[.pointer (some ⟨P, 0, none⟩), .int .i64 n] w (NoHD F w P (d.stop n)) := by
  obtain ⟨a, rfl, h1, h2, h3⟩ := h
  exact (stop_any w a d n h1 h2 hn).mono (by rintro e w' ⟨rfl, hs⟩; exact ⟨rfl, hs.hd h3⟩)
end
/-- Bytes whose block lies between two bounds. -/
def BI (lo hi : Nat) (w : World) (A : Option Addr) (l : List UInt8) : Prop := 0 < l.length → ∃ b off, A = some ⟨b, off, none⟩ ∧ lo ≤ b ∧ b < hi ∧ b < w.heap.size ∧ ∀ k (h : k < l.length), w.cell? ⟨b, off + k, none⟩ = some (B l[k])
theorem BI.bin {lo hi : Nat} {w : World} {A : Option Addr} {l : List UInt8} (h : BI lo hi w A l) : BIn w A l := fun hn => by
  obtain ⟨b, off, e, _, _, h3, h4⟩ := h hn
  exact ⟨b, off, e, h3, h4⟩
theorem BI.out {lo hi : Nat} {F : Nat → Prop} {w w' : World} {A : Option Addr} {l : List UInt8} (h : BI lo hi w A l) (ho : OutP F w w') (hs : ∀ x, lo ≤ x → x < hi → ¬ F x) : BI lo hi w' A l := fun hn => by
  obtain ⟨b, off, e, h1, h2, h3, h4⟩ := h hn
  exact ⟨b, off, e, h1, h2, Nat.lt_of_lt_of_le h3 ho.size, fun k hk => (World.cell?_of_block (w := w) (w' := w') (a := ⟨b, off + k, none⟩) (ho.block b h3 (hs b h1 h2))).trans (h4 k hk)⟩
theorem BI.keep {lo hi : Nat} {w w' : World} {A : Option Addr} {l : List UInt8} (h : BI lo hi w A l) (hb : Below w.heap.size w w') : BI lo hi w' A l := h.out (F := fun _ => False) (OutP.of hb) (fun _ _ _ h => h)
theorem own_bi {w w' : World} {A : Option Addr} {cap : Nat} {l : List UInt8} (h : w'.ownsRow w.heap.size 5 1 (.slice A l.length cap) l.length (bcs l)) : BI w.heap.size w'.heap.size w' A l := fun hn => by
  obtain ⟨g, e, h1, h2, h3⟩ := own_cell h hn
  exact ⟨g, 0, e, h2, h1, h1, fun k hk => by rw [Nat.zero_add]; exact h3 k hk⟩
namespace Dk
theorem layCut_full (cuts : Bytes) : ∀ (l : List (Nat × Bytes)) (j : Nat) (k : Bytes), (∀ i, i < l.length → cutAt cuts (j + i) = 32) → layCut cuts j k l = layAll k l
  | [], _, _, _ => rfl
  | s :: r, j, k, h => by
    show layCut cuts (j + 1) (lay k s (cutAt cuts j)) r = layAll (lay k s 32) r
    rw [show cutAt cuts j = 32 from h 0 (by simp)]
    exact layCut_full cuts r (j + 1) _ (fun i hi => by rw [show j + 1 + i = j + (i + 1) by omega]; exact h (i + 1) (by simpa using hi))
theorem crash_full (d : D) (n : Nat) (h : n = d.st.length) : d.crash (List.replicate n 32) = ⟨d.n, layAll d.kept d.st, [], [], -1⟩ := by
  subst h
  unfold D.crash
  rw [layCut_full]
  intro i hi
  unfold cutAt
  rw [dif_pos (by simpa using hi)]
  simp
theorem crash_one {d : D} (hok : Ok d) (h : d.st.length ≤ 1) (cuts : Bytes) (x : Nat) : (d.crash cuts).kept[x]? = d.kept[x]? ∨ (d.crash cuts).kept[x]? = (seen (x / 32) (blk d.kept (x / 32)) d.st)[x % 32]? := by
  rcases hs : d.st with _ | ⟨s, r⟩
  · left
    unfold D.crash
    rw [hs]
    rfl
  · have hr : r = [] := by
      rw [hs] at h
      simpa using h
    subst hr
    have h1 := hok.st s (by rw [hs]; simp)
    have hc : (d.crash cuts).kept = lay d.kept s (cutAt cuts 0) := by unfold D.crash; rw [hs]; rfl
    have hc32 : cutAt cuts 0 ≤ 32 := by
      unfold cutAt
      split
      · omega
      · omega
    rw [hc, lay_get hok.kept h1.1 h1.2 hc32]
    by_cases hx : 32 * s.1 ≤ x ∧ x < 32 * s.1 + cutAt cuts 0
    · right
      rw [if_pos hx]
      have e1 : x / 32 = s.1 := by omega
      have e2 : x % 32 = x - 32 * s.1 := by omega
      rw [e1, e2]
      unfold seen
      simp
    · left
      rw [if_neg hx]
end Dk
end Go.Proofs.Ytoaadallbpelbaa
