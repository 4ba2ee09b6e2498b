/- The disk's calls, where some blocks of no part of it are looked at behind them: they stay. No condition. -/
import Derived.Test.YtoaadallbpelbaaDkOrd
namespace Go.Proofs.Ytoaadallbpelbaa
set_option maxRecDepth 8000
open Go.RowKit

/-- A disk in block base or later, none of whose blocks is one of X. -/
def SE (X : List Nat) (base : Nat) (w : World) (P : Nat) (d : Dk.D) : Prop := ∃ a : Mm, a.P = P ∧ DAt w a d ∧ There w a ∧ (∀ x ∈ a.F, base ≤ x) ∧ ∀ x ∈ X, x < w.heap.size ∧ x ∉ a.F
def SameX (X : List Nat) (w w' : World) : Prop := ∀ x ∈ X, w'.heap[x]? = w.heap[x]?
theorem SE.sd {X : List Nat} {base : Nat} {w : World} {P : Nat} {d : Dk.D} (h : SE X base w P d) : SD base w P d := by
  obtain ⟨a, p, h1, h2, h3, _⟩ := h
  exact ⟨a, p, h1, h2, h3⟩
theorem SD.se {base : Nat} {w : World} {P : Nat} {d : Dk.D} (h : SD base w P d) : SE [] base w P d := by
  obtain ⟨a, p, h1, h2, h3⟩ := h
  exact ⟨a, p, h1, h2, h3, fun x hx => by cases hx⟩
/-- A block that is made beside the disk is none of its. -/
theorem SE.add {X : List Nat} {base : Nat} {w w' : World} {P : Nat} {d : Dk.D} (h : SE X base w P d) (hb : Below w.heap.size w w') (Y : List Nat) (hY : ∀ y ∈ Y, w.heap.size ≤ y ∧ y < w'.heap.size) : SE (Y ++ X) base w' P d ∧ SameX X w w' := by
  obtain ⟨a, p, h1, h2, h3, h4⟩ := h
  refine ⟨⟨a, p, h1.same (fun b hb' => hb.block b (h2.all b hb')), h2.more hb.size, h3, fun x hx => ?_⟩, fun x hx => hb.block x (h4 x hx).1⟩
  rcases List.mem_append.1 hx with hx | hx
  · exact ⟨(hY x hx).2, fun hm => by have := h2.all x hm; have := (hY x hx).1; omega⟩
  · exact ⟨Nat.lt_of_lt_of_le (h4 x hx).1 hb.size, (h4 x hx).2⟩
theorem SE.keep {X : List Nat} {base : Nat} {w w' : World} {P : Nat} {d : Dk.D} (h : SE X base w P d) (hb : Below w.heap.size w w') : SE X base w' P d ∧ SameX X w w' := h.add hb [] (fun y hy => by cases hy)
theorem Step.se {X : List Nat} {w w' : World} {a : Mm} {d' : Dk.D} {base : Nat} (h : Step w a d' w') (hF : ∀ x ∈ a.F, base ≤ x) (hb : base ≤ w.heap.size) (hX : ∀ x ∈ X, x < w.heap.size ∧ x ∉ a.F) : SE X base w' a.P d' ∧ Below base w w' ∧ SameX X w w' := by
  obtain ⟨a', p, _, at', t', o, f⟩ := h
  refine ⟨⟨a', p, at', t', fun x hx => ?_, fun x hx => ⟨Nat.lt_of_lt_of_le (hX x hx).1 o.size, fun hm => ?_⟩⟩, o.below hF hb, fun x hx => o.block x (hX x hx).1 (hX x hx).2⟩
  · rcases f x hx with h | h
    · exact hF x h
    · exact Nat.le_trans hb h
  · rcases f x hm with h | h
    · exact (hX x hx).2 h
    · have := (hX x hx).1
      omega
theorem SameX.trans {X : List Nat} {a b c : World} (h : SameX X a b) (k : SameX X b c) : SameX X a c := fun x hx => (k x hx).trans (h x hx)
theorem SameX.refl (X : List Nat) (a : World) : SameX X a a := fun _ _ => rfl
theorem SameX.sub {X Y : List Nat} {a b : World} (h : SameX X a b) (hs : ∀ x ∈ Y, x ∈ X) : SameX Y a b := fun x hx => h x (hs x hx)
theorem BIn.sameX {w w' : World} {A : Option Addr} {l : List UInt8} (h : BIn w A l) (hs : SameX (blkOf A) w w') (hz : w.heap.size ≤ w'.heap.size) : BIn w' A l := fun hn => by
  obtain ⟨b, off, rfl, hlt, hc⟩ := h hn
  exact ⟨b, off, rfl, Nat.lt_of_lt_of_le hlt hz, fun k hk => (World.cell?_of_block (w := w) (w' := w') (a := ⟨b, off + k, none⟩) (hs b (by simp [blkOf]))).trans (hc k hk)⟩
def IntSE (X : List Nat) (base : Nat) (w : World) (P : Nat) (x : Int) (d' : Dk.D) (e : Ending) (w' : World) : Prop := e = .returned (.int .i64 x) ∧ SE X base w' P d' ∧ Below base w w' ∧ SameX X w w'
def NoSE (X : List Nat) (base : Nat) (w : World) (P : Nat) (d' : Dk.D) (e : Ending) (w' : World) : Prop := e = .returned (.tuple #[]) ∧ SE X base w' P d' ∧ Below base w w' ∧ SameX X w w'
section
variable {X : List Nat} {base : Nat} {w : World} {P : Nat} {d : Dk.D}
theorem write_se (h : SE X base w P d) (hb : base ≤ w.heap.size) (hst : d.st.length ≤ 1048575) (i : Int) (A : Option Addr) (cap : Nat) (l : List UInt8) (hl : l.length ≤ 9223372036854775807) (hA : BInB w base A l) :
    Calls Try.prog 33 #[.pointer (some ⟨P, 0, none⟩), .int .i64 i, .slice A l.length cap] w (IntSE X base w P (d.writeE i l) (d.write i l)) := by
  obtain ⟨a, rfl, h1, h2, h3, h4⟩ := h
  refine (write_any w a d i A cap l h1 h2 hst hl (hA.bin hb) (fun hn ad e hx => ?_)).mono ?_
  · obtain ⟨b, off, e2, hlt, _⟩ := hA hn
    have h5 := h3 _ hx
    rw [e] at e2
    injection e2 with e2
    rw [e2] at h5
    dsimp only at h5
    omega
  · rintro e w' ⟨rfl, hs⟩
    exact ⟨rfl, hs.se h3 hb h4⟩
theorem sync_se (h : SE X base w P d) (hb : base ≤ w.heap.size) (hst : d.st.length ≤ 1048576) :
    Calls Try.prog 32 #[.pointer (some ⟨P, 0, none⟩)] w (IntSE X base w P d.syncE d.sync) := by
  obtain ⟨a, rfl, h1, h2, h3, h4⟩ := h
  exact (sync_any w a d h1 h2 hst).mono (by rintro e w' ⟨rfl, hs⟩; exact ⟨rfl, hs.se h3 hb h4⟩)
theorem faults_se (h : SE X base w P d) (hb : base ≤ w.heap.size) (A : Option Addr) (cap : Nat) (p : List Bool) (hp : PlanIn w A cap p) : Calls Try.prog 31 #[.pointer (some ⟨P, 0, none⟩), .slice A p.length cap] w (NoSE X base w P { d with plan := p }) := by
  obtain ⟨a, rfl, h1, h2, h3, h4⟩ := h
  exact (faults_any w a d A cap p h1 h2 hp).mono (by rintro e w' ⟨rfl, hs⟩; exact ⟨rfl, hs.se h3 hb h4⟩)
theorem crash_se (h : SE X base w P d) (hb : base ≤ w.heap.size) (hst : d.st.length ≤ 1048576) (A : Option Addr) (cap : Nat) (l : List UInt8) (hl : l.length ≤ 9223372036854775807) (hA : BInB w base A l) :
    Calls Try.prog 30 #[.pointer (some ⟨P, 0, none⟩), .slice A l.length cap] w (NoSE X base w P (d.crash l)) := by
  obtain ⟨a, rfl, h1, h2, h3, h4⟩ := h
  refine (crash_any w a d A cap l h1 h2 hst hl (hA.bin hb) (fun hn ad e hx => ?_)).mono ?_
  · obtain ⟨b, off, e2, hlt, _⟩ := hA hn
    have h5 := h3 _ hx
    rw [e] at e2
    injection e2 with e2
    rw [e2] at h5
    dsimp only at h5
    omega
  · rintro e w' ⟨rfl, hs⟩
    exact ⟨rfl, hs.se h3 hb h4⟩
end
/-- What Bytes answers lies in blocks of its own. -/
theorem byrow_new {w w' : World} {A : Option Addr} {c : Nat} {l : List UInt8} (h : w'.ownsRow w.heap.size 5 1 (.slice A l.length c) l.length (bcs l)) : ∀ y ∈ blkOf A, w.heap.size ≤ y ∧ y < w'.heap.size := by
  obtain ⟨A', cap, e, _, _, _, hb⟩ := own_form h
  injection e with e1 _ _
  rw [e1]
  exact fun y hy => ⟨(hb y hy).1, (hb y hy).2.1⟩
theorem on_sd {base : Nat} {w : World} {P : Nat} {d : Dk.D} (h : SD base w P d) : Calls Try.prog 19 #[.pointer (some ⟨P, 0, none⟩)] w fun e w' => e = .returned (.bool d.on) ∧ w = w' := by
  obtain ⟨a, rfl, h1, _, _⟩ := h
  exact on_any w a d h1
theorem len_sd {base : Nat} {w : World} {P : Nat} {d : Dk.D} (h : SD base w P d) : Calls Try.prog 25 #[.pointer (some ⟨P, 0, none⟩)] w fun e w' => e = .returned (.int .i64 d.n) ∧ w = w' := by
  obtain ⟨a, rfl, h1, _, _⟩ := h
  exact len_any w a d h1
theorem bytes_sd {base : Nat} {w : World} {P : Nat} {d : Dk.D} (h : SD base w P d) : Calls Try.prog 24 #[.pointer (some ⟨P, 0, none⟩)] w (BytesPost w d.kept) := by
  obtain ⟨a, rfl, h1, h2, _⟩ := h
  exact bytes_any w a d h1 h2
theorem SD.ok {base : Nat} {w : World} {P : Nat} {d : Dk.D} (h : SD base w P d) : Dk.Ok d := by
  obtain ⟨a, rfl, h1, _, _⟩ := h
  exact h1.ok
theorem behind_st (bl : Int) (l : List Dk.O) (hf : Dk.fewB l = true) : (Dk.run (Dk.new bl) l).st.length ≤ 40 := by
  have h1 := Dk.run_st (Dk.new bl) l
  have h0 : (Dk.new bl).st.length = 0 := rfl
  unfold Dk.fewB at hf
  simp at hf
  omega
theorem SD.base {base base' : Nat} {w : World} {P : Nat} {d : Dk.D} (h : SD base' w P d) (hb : base ≤ base') : SD base w P d := by
  obtain ⟨a, p, h1, h2, h3⟩ := h
  exact ⟨a, p, h1, h2, fun x hx => Nat.le_trans hb (h3 x hx)⟩
namespace Dk
theorem off_sync {d : D} (h : d.left = 0) : d.syncE = 21 ∧ d.sync = d := by
  unfold D.syncE D.sync
  rw [bad_off d h, asked_off d h]
  exact ⟨rfl, rfl⟩
theorem off_drop {d : D} (h : d.left = 0) : d.drop = d := by unfold D.drop; rw [if_pos h]
theorem off_write {d : D} (h : d.left = 0) (i : Int) (b : Bytes) (hb : b.length ≤ 32) : d.writeE i b ≠ 0 ∧ d.write i b = d := by
  unfold D.writeE D.write
  have g2 : ¬ 32 < b.length := by omega
  rw [if_neg g2, if_neg g2, bad_off d h, asked_off d h]
  split
  · exact ⟨by omega, rfl⟩
  · exact ⟨by show (21 : Int) ≠ 0; omega, rfl⟩
theorem plan_sync {d : D} (r : List Bool) (h1 : d.left = -1) (h2 : d.plan = true :: r) : d.syncE = 21 ∧ d.sync = { d with plan := r } := by
  have e1 : d.bad = true := by rw [bad_on d (by omega), h2]; rfl
  have e2 : d.asked = { d with plan := r } := by
    rw [asked_on d (by omega), h2, h1]
    unfold tick
    rw [if_neg (by omega), ← h1]
    rfl
  unfold D.syncE D.sync
  rw [e1, e2]
  exact ⟨rfl, rfl⟩
theorem plan_write {d : D} (q : Bool) (r : List Bool) (h1 : d.left = -1) (h2 : d.plan = q :: r) (i : Int) (b : Bytes) (hb : b.length ≤ 32) (hi : 0 ≤ i ∧ i < (d.n : Int)) :
    d.writeE i b = (if q then 21 else 0) ∧ d.write i b = (if q then { d with plan := r } else { d with plan := r, st := d.st ++ [(i.toNat, pad b)] }) := by
  have e1 : d.bad = q := by rw [bad_on d (by omega), h2]; rfl
  have e2 : d.asked = { d with plan := r } := by
    rw [asked_on d (by omega), h2, h1]
    unfold tick
    rw [if_neg (by omega), ← h1]
    rfl
  have g1 : ¬ (i < 0 ∨ (d.n : Int) ≤ i) := by omega
  have g2 : ¬ 32 < b.length := by omega
  unfold D.writeE D.write
  rw [if_neg g1, if_neg g1, if_neg g2, if_neg g2, e1, e2]
  exact ⟨rfl, rfl⟩
theorem bad_write {d : D} (i : Int) (b : Bytes) (hi : i < 0 ∨ (d.n : Int) ≤ i) : d.writeE i b = 4 ∧ d.write i b = d := by
  unfold D.writeE D.write
  rw [if_pos hi, if_pos hi]
  exact ⟨rfl, rfl⟩
end Dk

end Go.Proofs.Ytoaadallbpelbaa
