/- The disk's calls, where several disks lie beside one another: which blocks may change is told by a predicate. No condition. What the small calls of the document's own disk do (fails, Drop, Stop). Conditions: numbers of calls that are left fit in an int. -/
import Derived.Test.YtfceljbmdcbciaaDoorMg23
import Derived.Test.YtfceljbmdcbciaaDoorMg24
namespace Go.Proofs.YtfceljbmdcbciaaDoor
set_option maxRecDepth 8000
open Go.RowKit

/-- But for the blocks of F all that was there is as it was. -/
structure OutP (F : Nat → Prop) (w w' : World) : Prop where
  os : w'.os = w.os
  tape : w'.tape = w.tape
  output : w'.output = w.output
  size : w.heap.size ≤ w'.heap.size
  block : ∀ b, b < w.heap.size → ¬ F b → w'.heap[b]? = w.heap[b]?
theorem OutP.of {F : Nat → Prop} {w w' : World} (h : Below w.heap.size w w') : OutP F w w' := ⟨h.os, h.tape, h.output, h.size, fun b hb _ => h.block b hb⟩
theorem OutP.refl (F : Nat → Prop) (w : World) : OutP F w w := OutP.of (Below.refl _ _)
theorem OutP.mono {F G : Nat → Prop} {w w' : World} (h : OutP F w w') (hs : ∀ x, F x → G x) : OutP G w w' := ⟨h.os, h.tape, h.output, h.size, fun b hb hn => h.block b hb (fun hx => hn (hs b hx))⟩
theorem OutP.trans {F G H : Nat → Prop} {w w1 w2 : World} (h : OutP F w w1) (k : OutP G w1 w2) (hF : ∀ x, x < w.heap.size → F x → H x) (hG : ∀ x, x < w.heap.size → G x → H x) : OutP H w w2 :=
  ⟨k.os.trans h.os, k.tape.trans h.tape, k.output.trans h.output, Nat.le_trans h.size k.size, fun b hb hn => (k.block b (Nat.lt_of_lt_of_le hb h.size) (fun hx => hn (hG b hb hx))).trans (h.block b hb (fun hx => hn (hF b hb hx)))⟩
theorem OutP.below {F : Nat → Prop} {w w' : World} {base : Nat} (h : OutP F w w') (hF : ∀ x, F x → base ≤ x) (hb : base ≤ w.heap.size) : Below base w w' :=
  ⟨h.os, h.tape, h.output, h.size, fun b hlt => h.block b (by omega) (fun hx => absurd (hF b hx) (by omega))⟩
/-- A disk at P, whose blocks are of F. -/
def HD (F : Nat → Prop) (w : World) (P : Nat) (d : Dk.D) : Prop := ∃ a : Mm, a.P = P ∧ DAt w a d ∧ There w a ∧ ∀ x ∈ a.F, F x
/-- Behind a step it may have new blocks. -/
def Or (F : Nat → Prop) (s t : Nat) : Nat → Prop := fun x => F x ∨ s ≤ x ∧ x < t
theorem HD.ok {F : Nat → Prop} {w : World} {P : Nat} {d : Dk.D} (h : HD F w P d) : Dk.Ok d := by
  obtain ⟨a, _, h1, _, _⟩ := h
  exact h1.ok
theorem HD.sd {F : Nat → Prop} {w : World} {P : Nat} {d : Dk.D} (h : HD F w P d) : SD 0 w P d := by
  obtain ⟨a, p, h1, h2, _⟩ := h
  exact ⟨a, p, h1, h2, fun _ _ => Nat.zero_le _⟩
theorem HD.out {F G : Nat → Prop} {w w' : World} {P : Nat} {d : Dk.D} (h : HD F w P d) (ho : OutP G w w') (hs : ∀ x, x < w.heap.size → F x → ¬ G x) : HD F w' P d := by
  obtain ⟨a, p, h1, h2, h3⟩ := h
  exact ⟨a, p, h1.same (fun b hb => ho.block b (h2.all b hb) (hs b (h2.all b hb) (h3 b hb))), h2.more ho.size, h3⟩
theorem HD.keep {F : Nat → Prop} {w w' : World} {P : Nat} {d : Dk.D} (h : HD F w P d) (hb : Below w.heap.size w w') : HD F w' P d := h.out (G := fun _ => False) (OutP.of hb) (fun _ _ _ h => h)
theorem HD.mono {F G : Nat → Prop} {w : World} {P : Nat} {d : Dk.D} (h : HD F w P d) (hs : ∀ x, F x → G x) : HD G w P d := by
  obtain ⟨a, p, h1, h2, h3⟩ := h
  exact ⟨a, p, h1, h2, fun x hx => hs x (h3 x hx)⟩
theorem SD.hd {base : Nat} {w : World} {P : Nat} {d : Dk.D} (h : SD base w P d) : HD (fun x => base ≤ x ∧ x < w.heap.size) w P d := by
  obtain ⟨a, p, h1, h2, h3⟩ := h
  exact ⟨a, p, h1, h2, fun x hx => ⟨h3 x hx, h2.all x hx⟩⟩
theorem Step.hd {F : Nat → Prop} {w w' : World} {a : Mm} {d' : Dk.D} (h : Step w a d' w') (hF : ∀ x ∈ a.F, F x) : HD (Or F w.heap.size w'.heap.size) w' a.P d' ∧ OutP F w w' := by
  obtain ⟨a', p, _, at', t', o, f⟩ := h
  refine ⟨⟨a', p, at', t', fun x hx => (f x hx).imp (hF x) (fun h => ⟨h, t'.all x hx⟩)⟩, ⟨o.os, o.tape, o.output, o.size, fun b hb hn => o.block b hb (fun hm => hn (hF b hm))⟩⟩
def IntHD (F : Nat → Prop) (w : World) (P : Nat) (x : Int) (d' : Dk.D) (e : Ending) (w' : World) : Prop := e = .returned (.int .i64 x) ∧ HD (Or F w.heap.size w'.heap.size) w' P d' ∧ OutP F w w'
def NoHD (F : Nat → Prop) (w : World) (P : Nat) (d' : Dk.D) (e : Ending) (w' : World) : Prop := e = .returned (.tuple #[]) ∧ HD (Or F w.heap.size w'.heap.size) w' P d' ∧ OutP F w w'
section
variable {F : Nat → Prop} {w : World} {P : Nat} {d : Dk.D}
theorem sync_hd (h : HD F w P d) (hst : d.st.length ≤ 1048576) : Calls Tryd.prog 95 #[.pointer (some ⟨P, 0, none⟩)] w (IntHD F w P d.syncE d.sync) := by
  obtain ⟨a, rfl, h1, h2, h3⟩ := h
  exact (sync_any w a d h1 h2 hst).mono (by rintro e w' ⟨rfl, hs⟩; exact ⟨rfl, hs.hd h3⟩)
theorem faults_hd (h : HD F w P d) (A : Option Addr) (cap : Nat) (p : List Bool) (hp : PlanIn w A cap p) : Calls Tryd.prog 33 #[.pointer (some ⟨P, 0, none⟩), .slice A p.length cap] w (NoHD F w P { d with plan := p }) := by
  obtain ⟨a, rfl, h1, h2, h3⟩ := h
  exact (faults_any w a d A cap p h1 h2 hp).mono (by rintro e w' ⟨rfl, hs⟩; exact ⟨rfl, hs.hd h3⟩)
theorem crash_hd (h : HD F w P d) (hst : d.st.length ≤ 1048576) (A : Option Addr) (cap : Nat) (l : List UInt8) (hl : l.length ≤ 9223372036854775807) (hA : BIn w A l) (hF : 0 < l.length → ∀ ad, A = some ad → ¬ F ad.block) :
    Calls Tryd.prog 28 #[.pointer (some ⟨P, 0, none⟩), .slice A l.length cap] w (NoHD F w P (d.crash l)) := by
  obtain ⟨a, rfl, h1, h2, h3⟩ := h
  exact (crash_any w a d A cap l h1 h2 hst hl hA (fun hn ad e hx => hF hn ad e (h3 _ hx))).mono (by rintro e w' ⟨rfl, hs⟩; exact ⟨rfl, hs.hd h3⟩)
theorem write_hd (h : HD F w P d) (hst : d.st.length ≤ 1048575) (i : Int) (A : Option Addr) (cap : Nat) (l : List UInt8) (hl : l.length ≤ 9223372036854775807) (hA : BIn w A l) (hF : 0 < l.length → ∀ ad, A = some ad → ¬ F ad.block) :
    Calls Tryd.prog 97 #[.pointer (some ⟨P, 0, none⟩), .int .i64 i, .slice A l.length cap] w (IntHD F w P (d.writeE i l) (d.write i l)) := by
  obtain ⟨a, rfl, h1, h2, h3⟩ := h
  exact (write_any w a d i A cap l h1 h2 hst hl hA (fun hn ad e hx => hF hn ad e (h3 _ hx))).mono (by rintro e w' ⟨rfl, hs⟩; exact ⟨rfl, hs.hd h3⟩)
theorem drop_hd (h : HD F w P d) : Calls Tryd.prog 100 #[.pointer (some ⟨P, 0, none⟩)] w (NoHD F w P d.drop) := by
  obtain ⟨a, rfl, h1, h2, h3⟩ := h
  exact (drop_any w a d h1 h2).mono (by rintro e w' ⟨rfl, hs⟩; exact ⟨rfl, hs.hd h3⟩)
theorem stop_hd (h : HD F w P d) (n : Int) (hn : I64 n) : Calls Tryd.prog 26 #[.pointer (some ⟨P, 0, none⟩), .int .i64 n] w (NoHD F w P (d.stop n)) := by
  obtain ⟨a, rfl, h1, h2, h3⟩ := h
  exact (stop_any w a d n h1 h2 hn).mono (by rintro e w' ⟨rfl, hs⟩; exact ⟨rfl, hs.hd h3⟩)
end
/-- Bytes whose block lies between two bounds. -/
def BI (lo hi : Nat) (w : World) (A : Option Addr) (l : List UInt8) : Prop := 0 < l.length → ∃ b off, A = some ⟨b, off, none⟩ ∧ lo ≤ b ∧ b < hi ∧ b < w.heap.size ∧ ∀ k (h : k < l.length), w.cell? ⟨b, off + k, none⟩ = some (B l[k])
theorem BI.bin {lo hi : Nat} {w : World} {A : Option Addr} {l : List UInt8} (h : BI lo hi w A l) : BIn w A l := fun hn => by
  obtain ⟨b, off, e, _, _, h3, h4⟩ := h hn
  exact ⟨b, off, e, h3, h4⟩
theorem BI.out {lo hi : Nat} {F : Nat → Prop} {w w' : World} {A : Option Addr} {l : List UInt8} (h : BI lo hi w A l) (ho : OutP F w w') (hs : ∀ x, lo ≤ x → x < hi → ¬ F x) : BI lo hi w' A l := fun hn => by
  obtain ⟨b, off, e, h1, h2, h3, h4⟩ := h hn
  exact ⟨b, off, e, h1, h2, Nat.lt_of_lt_of_le h3 ho.size, fun k hk => (World.cell?_of_block (w := w) (w' := w') (a := ⟨b, off + k, none⟩) (ho.block b h3 (hs b h1 h2))).trans (h4 k hk)⟩
theorem BI.keep {lo hi : Nat} {w w' : World} {A : Option Addr} {l : List UInt8} (h : BI lo hi w A l) (hb : Below w.heap.size w w') : BI lo hi w' A l := h.out (F := fun _ => False) (OutP.of hb) (fun _ _ _ h => h)
theorem own_bi {w w' : World} {A : Option Addr} {cap : Nat} {l : List UInt8} (h : w'.ownsRow w.heap.size 5 1 (.slice A l.length cap) l.length (bcs l)) : BI w.heap.size w'.heap.size w' A l := fun hn => by
  obtain ⟨g, e, h1, h2, h3⟩ := own_cell h hn
  exact ⟨g, 0, e, h2, h1, h1, fun k hk => by rw [Nat.zero_add]; exact h3 k hk⟩
namespace Dk
theorem layCut_full (cuts : Bytes) : ∀ (l : List (Nat × Bytes)) (j : Nat) (k : Bytes), (∀ i, i < l.length → cutAt cuts (j + i) = 32) → layCut cuts j k l = layAll k l
  | [], _, _, _ => rfl
  | s :: r, j, k, h => by
    show layCut cuts (j + 1) (lay k s (cutAt cuts j)) r = layAll (lay k s 32) r
    rw [show cutAt cuts j = 32 from h 0 (by simp)]
    exact layCut_full cuts r (j + 1) _ (fun i hi => by rw [show j + 1 + i = j + (i + 1) by omega]; exact h (i + 1) (by simpa using hi))
theorem crash_full (d : D) (n : Nat) (h : n = d.st.length) : d.crash (List.replicate n 32) = ⟨d.n, layAll d.kept d.st, [], [], -1⟩ := by
  subst h
  unfold D.crash
  rw [layCut_full]
  intro i hi
  unfold cutAt
  rw [dif_pos (by simpa using hi)]
  simp
theorem crash_one {d : D} (hok : Ok d) (h : d.st.length ≤ 1) (cuts : Bytes) (x : Nat) : (d.crash cuts).kept[x]? = d.kept[x]? ∨ (d.crash cuts).kept[x]? = (seen (x / 32) (blk d.kept (x / 32)) d.st)[x % 32]? := by
  rcases hs : d.st with _ | ⟨s, r⟩
  · left
    unfold D.crash
    rw [hs]
    rfl
  · have hr : r = [] := by
      rw [hs] at h
      simpa using h
    subst hr
    have h1 := hok.st s (by rw [hs]; simp)
    have hc : (d.crash cuts).kept = lay d.kept s (cutAt cuts 0) := by unfold D.crash; rw [hs]; rfl
    have hc32 : cutAt cuts 0 ≤ 32 := by
      unfold cutAt
      split
      · omega
      · omega
    rw [hc, lay_get hok.kept h1.1 h1.2 hc32]
    by_cases hx : 32 * s.1 ≤ x ∧ x < 32 * s.1 + cutAt cuts 0
    · right
      rw [if_pos hx]
      have e1 : x / 32 = s.1 := by omega
      have e2 : x % 32 = x - 32 * s.1 := by omega
      rw [e1, e2]
      unfold seen
      simp
    · left
      rw [if_neg hx]
end Dk
end Go.Proofs.YtfceljbmdcbciaaDoor
namespace Go.Proofs.YtfceljbmdcbciaaDoor
set_option maxRecDepth 8000
open Go.RowKit

def Sep (b : Rm) : Prop := ∀ x ∈ b.gs, x ∉ blkOf b.K
/-- A step of the document's disk: it is as d' behind it; all else is as it was. -/
def RStep (w : World) (b : Rm) (d' : Dk.D) (w' : World) : Prop :=
  ∃ b' : Rm, b'.P = b.P ∧ RAt w' b' d' ∧ RThere w' b' ∧ Sep b' ∧ OutP (fun x => x ∈ b.F) w w' ∧ ∀ x ∈ b'.F, x ∈ b.F ∨ w.heap.size ≤ x
theorem RStep.trans {w w1 w2 : World} {b : Rm} {d1 d2 : Dk.D} (h1 : RStep w b d1 w1) (h2 : ∀ b1 : Rm, b1.P = b.P → RAt w1 b1 d1 → RThere w1 b1 → Sep b1 → RStep w1 b1 d2 w2) : RStep w b d2 w2 := by
  obtain ⟨b1, p1, a1, t1, s1, o1, f1⟩ := h1
  obtain ⟨b2, p2, a2, t2, s2, o2, f2⟩ := h2 b1 p1 a1 t1 s1
  refine ⟨b2, p2.trans p1, a2, t2, s2, o1.trans o2 (fun _ _ h => h) (fun x hx h => ?_), fun x hx => ?_⟩
  · rcases f1 x h with h | h
    · exact h
    · omega
  · rcases f2 x hx with h | h
    · exact f1 x h
    · exact .inr (Nat.le_trans o1.size h)
/-- Behind changes that leave the disk where it was. -/
theorem RStep.after {w w1 w2 : World} {b b1 : Rm} {d2 : Dk.D} (p1 : b1.P = b.P) (o1 : OutP (fun x => x ∈ b.F) w w1) (f1 : ∀ x ∈ b1.F, x ∈ b.F ∨ w.heap.size ≤ x) (h2 : RStep w1 b1 d2 w2) : RStep w b d2 w2 := by
  obtain ⟨b2, p2, a2, t2, s2, o2, f2⟩ := h2
  refine ⟨b2, p2.trans p1, a2, t2, s2, o1.trans o2 (fun _ _ h => h) (fun x hx h => ?_), fun x hx => ?_⟩
  · rcases f1 x h with h | h
    · exact h
    · omega
  · rcases f2 x hx with h | h
    · exact f1 x h
    · exact .inr (Nat.le_trans o1.size h)
theorem RStep.quiet {w w' : World} {b : Rm} {d : Dk.D} (h : RAt w b d) (ht : RThere w b) (hs : Sep b) (hb : Below w.heap.size w w') : RStep w b d w' :=
  ⟨b, rfl, h.same (fun x hx => hb.block x (ht.all x hx)), ht.more hb.size, hs, OutP.of hb, fun _ hx => .inl hx⟩
theorem RAt.PK {w : World} {b : Rm} {d : Dk.D} (h : RAt w b d) : b.P ∉ blkOf b.K := by
  intro e
  obtain ⟨cur, h1⟩ := own_lt h.kept _ e
  rw [h.disk] at h1
  simp at h1
theorem RAt.PS {w : World} {b : Rm} {d : Dk.D} (h : RAt w b d) : b.P ∉ blkOf b.S := by
  intro e
  obtain ⟨cur, h1⟩ := own_lt h.st _ e
  rw [h.disk] at h1
  simp at h1
theorem RAt.Pg {w : World} {b : Rm} {d : Dk.D} (h : RAt w b d) : b.P ∉ b.gs := by
  intro e
  obtain ⟨k, hk, e1⟩ := List.mem_iff_getElem.1 e
  have h1 := h.gb k (by rw [← h.gl]; exact hk)
  rw [e1, h.disk] at h1
  simp at h1
theorem rbmem {b : Rm} {x : Nat} : (x = b.P → x ∈ b.F) ∧ (x ∈ blkOf b.K → x ∈ b.F) ∧ (x ∈ blkOf b.S → x ∈ b.F) ∧ (x ∈ blkOf b.G → x ∈ b.F) ∧ (x ∈ b.gs → x ∈ b.F) :=
  ⟨fun h => (mem_R b x).2 (.inl h), fun h => (mem_R b x).2 (.inr (.inl h)), fun h => (mem_R b x).2 (.inr (.inr (.inl h))), fun h => (mem_R b x).2 (.inr (.inr (.inr (.inl h)))), fun h => (mem_R b x).2 (.inr (.inr (.inr (.inr h))))⟩

/-- Only cells of the struct itself have changed. -/
theorem RAt.setP {w w' : World} {b : Rm} {d d' : Dk.D} (h : RAt w b d) (ht : RThere w b) (G : Option Addr) (cG : Nat) (lf : Int) (_hn : d'.n = d.n) (hk : d'.kept = d.kept) (hst : d'.st = d.st) (hok : Dk.Ok d')
    (hd : w'.heap[b.P]? = some (.cells #[.slice b.K d.kept.length b.cK, .slice b.S d.st.length b.cS, .slice G d'.plan.length cG, .bool (decide (d'.left = 0)), .int .i64 lf] 46 (0, 0)))
    (hs : ∀ x, x < w.heap.size → x ≠ b.P → w'.heap[x]? = w.heap[x]?) (hpl : BoC w' G d'.plan) (hcap : d'.plan.length ≤ cG ∧ cG ≤ 9223372036854775807) (hl : LfOk d' lf) : RAt w' { b with G := G, cG := cG, lf := lf } d' where
  ok := hok
  disk := by rw [hk, hst]; exact hd
  kept := by
    rw [hk]
    exact own_block h.kept (fun x hx => hs x (ht.all x (rbmem.2.1 hx)) (fun e => h.PK (e ▸ hx)))
  st := by
    rw [hst]
    exact own_block h.st (fun x hx => hs x (ht.all x (rbmem.2.2.1 hx)) (fun e => h.PS (e ▸ hx)))
  gl := by rw [hst]; exact h.gl
  gb := fun k hk' => by
    have hk2 : k < d.st.length := by rw [← hst]; exact hk'
    have hm : b.gs[k]'(by rw [h.gl]; exact hk2) ∈ b.gs := List.getElem_mem _
    have h1 := (hs _ (ht.all _ (rbmem.2.2.2.2 hm)) (fun e => h.Pg (e ▸ hm))).trans (h.gb k hk2)
    have e2 : d'.st[k] = d.st[k] := by simp [hst]
    rw [e2]
    exact h1
  plan := hpl
  cap := hcap
  left := hl
theorem BoC.pastR {w w' : World} {b : Rm} {d : Dk.D} (h : RAt w b d) (hs : ∀ x, x < w.heap.size → x ≠ b.P → w'.heap[x]? = w.heap[x]?) : BoC w' b.G d.plan := h.plan.past h.disk (by decide) hs
theorem rthere_G {w : World} {b : Rm} (ht : RThere w b) {G : Option Addr} {cG : Nat} {lf : Int} (hG : ∀ x ∈ blkOf G, x < w.heap.size) : RThere w { b with G := G, cG := cG, lf := lf } := ⟨fun x hx => by
  rcases (mem_R _ _).1 hx with h | h | h | h | h
  · exact ht.all x (rbmem.1 h)
  · exact ht.all x (rbmem.2.1 h)
  · exact ht.all x (rbmem.2.2.1 h)
  · exact hG x h
  · exact ht.all x (rbmem.2.2.2.2 h)⟩
theorem rsub_G {b : Rm} {s : Nat} {G : Option Addr} {cG : Nat} {lf : Int} (hG : ∀ x ∈ blkOf G, x ∈ b.F ∨ s ≤ x) : ∀ x ∈ ({ b with G := G, cG := cG, lf := lf } : Rm).F, x ∈ b.F ∨ s ≤ x := fun x hx => by
  rcases (mem_R _ _).1 hx with h | h | h | h | h
  · exact .inl (rbmem.1 h)
  · exact .inl (rbmem.2.1 h)
  · exact .inl (rbmem.2.2.1 h)
  · exact hG x h
  · exact .inl (rbmem.2.2.2.2 h)
theorem set2_other (w : World) (P i j : Nat) (u v : Value) (x : Nat) (hx : x ≠ P) : ((w.setCell ⟨P, i, none⟩ u).setCell ⟨P, j, none⟩ v).heap[x]? = w.heap[x]? := by rw [setP_other _ P j _ x hx, setP_other _ P i _ x hx]
theorem out_set {w : World} {F : Nat → Prop} {P j : Nat} (v : Value) (hP : F P) : OutP F w (w.setCell ⟨P, j, none⟩ v) := ⟨rfl, rfl, rfl, by rw [World.size_setCell]; exact Nat.le_refl _, fun b _ hn => setP_other w P j v b (fun e => hn (by rw [e]; exact hP))⟩
theorem OutP.set {w w' : World} {F : Nat → Prop} (h : OutP F w w') {P j : Nat} (v : Value) (hP : F P) : OutP F w (w'.setCell ⟨P, j, none⟩ v) := h.trans (out_set (j := j) v hP) (fun _ _ h => h) (fun _ _ h => h)

/-- One call less is left. -/
theorem r_tick {w : World} {b : Rm} {d : Dk.D} (h : RAt w b d) (ht : RThere w b) (hpos : 0 < d.left) (l1 : Int) (hl1 : l1 = b.lf - 1) (z : Bool) (hz : z = (l1 == 0)) :
    RAt ((w.setCell ⟨b.P, 4, none⟩ (.int .i64 l1)).setCell ⟨b.P, 3, none⟩ (.bool z)) { b with G := b.G, cG := b.cG, lf := l1 } { d with left := Dk.tick d.left } ∧ RThere ((w.setCell ⟨b.P, 4, none⟩ (.int .i64 l1)).setCell ⟨b.P, 3, none⟩ (.bool z)) { b with G := b.G, cG := b.cG, lf := l1 } ∧ OutP (fun x => x ∈ b.F) w ((w.setCell ⟨b.P, 4, none⟩ (.int .i64 l1)).setCell ⟨b.P, 3, none⟩ (.bool z)) := by
  obtain ⟨q0, q1, q2⟩ := h.left
  have hlf : b.lf = d.left := by rw [q2 (by omega)]; omega
  have e1 : Dk.tick d.left = l1 := by unfold Dk.tick; rw [if_pos hpos]; omega
  have e2 : decide (Dk.tick d.left = 0) = z := by rw [e1, hz]; by_cases h0 : l1 = 0 <;> simp [h0]
  have hs : ∀ x, x < w.heap.size → x ≠ b.P → ((w.setCell ⟨b.P, 4, none⟩ (.int .i64 l1)).setCell ⟨b.P, 3, none⟩ (.bool z)).heap[x]? = w.heap[x]? := fun x _ hx => set2_other w b.P 4 3 _ _ x hx
  refine ⟨h.setP (d' := { d with left := Dk.tick d.left }) ht b.G b.cG l1 rfl rfl rfl ⟨h.ok.n, h.ok.kept, h.ok.st⟩ ?_ hs (show BoC _ b.G d.plan from BoC.pastR h hs) h.cap ⟨by omega, by omega, fun h0 => ?_⟩, ?_, ?_⟩
  · have h1 := setP_heap (setP_heap h.disk 4 (.int .i64 l1)) 3 (.bool z)
    rw [h1, ← e2]
    rfl
  · dsimp only at h0 ⊢
    omega
  · exact ⟨fun x hx => by rw [World.size_setCell, World.size_setCell]; exact ht.all x hx⟩
  · exact (out_set (F := fun x => x ∈ b.F) (j := 4) _ (rbmem.1 rfl)).set _ (rbmem.1 rfl)
/-- The plan's next is taken away. -/
theorem r_next {w : World} {b : Rm} {d : Dk.D} (h : RAt w b d) (ht : RThere w b) (hsep : Sep b) (q : Bool) (r : List Bool) (hp : d.plan = q :: r) :
    RStep w b { d with plan := r } (w.setCell ⟨b.P, 2, none⟩ (.slice (if b.cG = 1 then b.G else b.G.map (·.add 1)) r.length (b.cG - 1))) := by
  have hpl := h.plan (by rw [hp]; simp)
  obtain ⟨g, off, hG, hb, hblk, hc⟩ := hpl
  have hcap := h.cap
  rw [hp] at hcap
  simp only [List.length_cons] at hcap
  have hbl : ∀ x ∈ blkOf (if b.cG = 1 then b.G else b.G.map (·.add 1)), x = g := by
    intro x hx
    rw [hG] at hx
    split at hx
    · simpa [blkOf] using hx
    · simp only [Option.map_some, Addr.add_mid, blkOf, List.mem_singleton] at hx
      exact hx
  have hmem : g ∈ b.F := rbmem.2.2.2.1 (by rw [hG]; simp [blkOf])
  have hs : ∀ x, x < w.heap.size → x ≠ b.P → (w.setCell ⟨b.P, 2, none⟩ (.slice (if b.cG = 1 then b.G else b.G.map (·.add 1)) r.length (b.cG - 1))).heap[x]? = w.heap[x]? := fun x _ hx => setP_other w b.P 2 _ x hx
  have hbo : BoC w (if b.cG = 1 then b.G else b.G.map (·.add 1)) r := fun hr => by
    rw [if_neg (by omega), hG]
    refine ⟨g, off + 1, by simp [Addr.add_mid], hb, hblk, fun k hk => ?_⟩
    have := hc (k + 1) (by rw [hp]; simpa using hk)
    rw [Nat.add_assoc, Nat.add_comm 1 k, this]
    simp [hp]
  refine ⟨{ b with G := (if b.cG = 1 then b.G else b.G.map (·.add 1)), cG := b.cG - 1, lf := b.lf }, rfl, h.setP ht _ _ _ rfl rfl rfl ⟨h.ok.n, h.ok.kept, h.ok.st⟩ ?_ hs (hbo.past h.disk (by decide) hs) ⟨by dsimp only; omega, by omega⟩ h.left, ?_, hsep, out_set _ (rbmem.1 rfl), rsub_G (fun x hx => .inl (by rw [hbl x hx]; exact hmem))⟩
  · exact setP_heap h.disk 2 _
  · exact ⟨fun x hx => by rw [World.size_setCell]; exact (rthere_G ht (fun x hx => by rw [hbl x hx]; exact hb)).all x hx⟩
def RBool (w : World) (b : Rm) (x : Bool) (d' : Dk.D) (e : Ending) (w' : World) : Prop := e = .returned (.bool x) ∧ RStep w b d' w'
def RInt (w : World) (b : Rm) (x : Int) (d' : Dk.D) (e : Ending) (w' : World) : Prop := e = .returned (.int .i64 x) ∧ RStep w b d' w'
def RNo (w : World) (b : Rm) (d' : Dk.D) (e : Ending) (w' : World) : Prop := e = .returned (.tuple #[]) ∧ RStep w b d' w'

set_option maxHeartbeats 1600000 in
theorem ref_fails_any (w : World) (b : Rm) (d : Dk.D) (h : RAt w b d) (ht : RThere w b) (hsep : Sep b) :
    Calls Tryd.prog 120 #[.pointer (some ⟨b.P, 0, none⟩)] w (RBool w b d.bad d.asked) := by
  obtain ⟨c0, c1, c2, c3, c4⟩ := h.c
  have f2 := h.fr 2
  have f3 := h.fr 3
  have f4 := h.fr 4
  by_cases h0 : d.left = 0
  · have HS : Hid (RStep w b d.asked w) := Lib.hid (by rw [Dk.asked_off d h0]; exact RStep.quiet h ht hsep (Below.refl _ _))
    have HB := Lib.hid (Dk.bad_off d h0)
    rw [decide_eq_true h0] at c3
    clear h0
    go_enter Tryd.func120, Tryd.ntmps120
    go_wp2
    go_ret
    exact ⟨ret_bool HB.out.symm, HS.out⟩
  · rw [decide_eq_false h0] at c3
    have HA := Lib.hid (Dk.asked_on d h0)
    have HB := Lib.hid (Dk.bad_on d h0)
    obtain ⟨l0, l1', l2⟩ := h.left
    have hlf := l2 h0
    obtain ⟨lf, hlfe⟩ : ∃ lf, lf = b.lf := ⟨_, rfl⟩
    rw [← hlfe] at c4 l0 l1' hlf
    by_cases hpos : 0 < d.left
    · have hp1 : 0 < lf := by omega
      obtain ⟨m1, hm1⟩ : ∃ m1, m1 = lf - 1 := ⟨_, rfl⟩
      obtain ⟨z, hz⟩ : ∃ z, z = (m1 == 0) := ⟨_, rfl⟩
      have HT := Lib.hid (r_tick h ht hpos m1 (by rw [← hlfe]; exact hm1) z hz)
      have hw1 : IntKind.i64.wrap m1 = m1 := IntWalk.i64_in _ (by omega)
      have hm1' : lf - 1 = m1 := hm1.symm
      have hz' : (m1 == 0) = z := hz.symm
      clear hm1 hz hlfe hlf l2 h0 hpos l0
      rcases hpl : d.plan with _ | ⟨q, r⟩
      · have HS : Hid (RStep w b d.asked _) := Lib.hid (by
          rw [HA.out, show d.plan.tail = d.plan by rw [hpl]; rfl]
          exact RStep.after (b1 := { b with G := b.G, cG := b.cG, lf := m1 }) rfl HT.out.2.2 (fun x hx => .inl hx) (RStep.quiet HT.out.1 HT.out.2.1 hsep (Below.refl _ _)))
        rw [hpl] at HB c2
        rw [List.length_nil] at c2
        clear hpl
        go_enter Tryd.func120, Tryd.ntmps120
        go_wp2
        go_ret
        exact ⟨ret_bool HB.out.symm, HS.out⟩
      · have hcap := h.cap
        have hpp := h.plan (by rw [hpl]; simp)
        obtain ⟨bb, off, hG, hb, ⟨cb, frb, hblk⟩, hcell⟩ := hpp
        have hcc := hcell 0 (by rw [hpl]; simp)
        have hbP : bb ≠ b.P := by
          intro e
          rw [e, h.disk] at hblk
          simp at hblk
        have hq : d.plan[0]'(by rw [hpl]; simp) = q := by simp [hpl]
        rw [hq, Nat.add_zero] at hcc
        rw [hpl] at hcap
        have HS : Hid (RStep w b d.asked _) := Lib.hid (by
          rw [HA.out]
          rw [show d.plan.tail = r by rw [hpl]; rfl]
          exact RStep.after rfl HT.out.2.2 (fun x hx => .inl hx) (r_next HT.out.1 HT.out.2.1 hsep q r hpl))
        rw [hpl] at HB c2
        rw [hG] at c2
        dsimp only at HS
        rw [hG] at HS
        simp only [Option.map_some, Addr.add_mid] at HS
        simp only [List.length_cons] at hcap c2
        obtain ⟨m, hm⟩ : ∃ m, m = r.length := ⟨_, rfl⟩
        rw [← hm] at hcap c2 HS
        obtain ⟨cg, hcg⟩ : ∃ cg, cg = b.cG := ⟨_, rfl⟩
        rw [← hcg] at hcap c2 HS
        obtain ⟨hcap1, hcap2⟩ := hcap
        clear hpl hm hcg hG hcell hq hblk
        by_cases hc1 : cg = 1
        · subst hc1
          have hm0 : m = 0 := by omega
          subst hm0
          go_enter Tryd.func120, Tryd.ntmps120
          go_wp2
          go_ret
          exact ⟨ret_bool HB.out.symm, HS.out⟩
        · rw [if_neg hc1] at HS
          go_enter Tryd.func120, Tryd.ntmps120
          go_wp2
          go_ret
          exact ⟨ret_bool HB.out.symm, HS.out⟩
    · have hlneg : d.left < 0 := by omega
      have hlf0 : lf = 0 := by omega
      have etick : Dk.tick d.left = d.left := by unfold Dk.tick; rw [if_neg hpos]
      rw [etick] at HA
      rw [hlf0] at c4
      have HT := Lib.hid (And.intro h ht)
      clear hlfe hlf l2 h0 hpos l0 hlneg hlf0 etick l1'
      rcases hpl : d.plan with _ | ⟨q, r⟩
      · have HS : Hid (RStep w b d.asked _) := Lib.hid (by
          rw [HA.out, show d.plan.tail = d.plan by rw [hpl]; rfl]
          exact RStep.after rfl (OutP.refl _ _) (fun x hx => .inl hx) (RStep.quiet HT.out.1 HT.out.2 hsep (Below.refl _ _)))
        rw [hpl] at HB c2
        rw [List.length_nil] at c2
        clear hpl
        go_enter Tryd.func120, Tryd.ntmps120
        go_wp2
        go_ret
        exact ⟨ret_bool HB.out.symm, HS.out⟩
      · have hcap := h.cap
        have hpp := h.plan (by rw [hpl]; simp)
        obtain ⟨bb, off, hG, hb, ⟨cb, frb, hblk⟩, hcell⟩ := hpp
        have hcc := hcell 0 (by rw [hpl]; simp)
        have hbP : bb ≠ b.P := by
          intro e
          rw [e, h.disk] at hblk
          simp at hblk
        have hq : d.plan[0]'(by rw [hpl]; simp) = q := by simp [hpl]
        rw [hq, Nat.add_zero] at hcc
        rw [hpl] at hcap
        have HS : Hid (RStep w b d.asked _) := Lib.hid (by
          rw [HA.out]
          rw [show d.plan.tail = r by rw [hpl]; rfl]
          exact RStep.after rfl (OutP.refl _ _) (fun x hx => .inl hx) (r_next HT.out.1 HT.out.2 hsep q r hpl))
        rw [hpl] at HB c2
        rw [hG] at c2
        rw [hG] at HS
        simp only [Option.map_some, Addr.add_mid] at HS
        simp only [List.length_cons] at hcap c2
        obtain ⟨m, hm⟩ : ∃ m, m = r.length := ⟨_, rfl⟩
        rw [← hm] at hcap c2 HS
        obtain ⟨cg, hcg⟩ : ∃ cg, cg = b.cG := ⟨_, rfl⟩
        rw [← hcg] at hcap c2 HS
        obtain ⟨hcap1, hcap2⟩ := hcap
        clear hpl hm hcg hG hcell hq hblk
        by_cases hc1 : cg = 1
        · subst hc1
          have hm0 : m = 0 := by omega
          subst hm0
          go_enter Tryd.func120, Tryd.ntmps120
          go_wp2
          go_ret
          exact ⟨ret_bool HB.out.symm, HS.out⟩
        · rw [if_neg hc1] at HS
          go_enter Tryd.func120, Tryd.ntmps120
          go_wp2
          go_ret
          exact ⟨ret_bool HB.out.symm, HS.out⟩
end Go.Proofs.YtfceljbmdcbciaaDoor
