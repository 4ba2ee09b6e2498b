/- What the statements' own do and behind do. Conditions as in the text before. -/
import Derived.Test.YtoaadallbpelbaaDkO
namespace Go.Proofs.Ytoaadallbpelbaa
set_option maxRecDepth 8000
open Go.RowKit

/-- A disk that lies in block base or later. -/
def SD (base : Nat) (w : World) (P : Nat) (d : Dk.D) : Prop := ∃ a : Mm, a.P = P ∧ DAt w a d ∧ There w a ∧ ∀ x ∈ a.F, base ≤ x
theorem Step.sd {w w' : World} {a : Mm} {d' : Dk.D} {base : Nat} (h : Step w a d' w') (hF : ∀ x ∈ a.F, base ≤ x) (hb : base ≤ w.heap.size) : SD base w' a.P d' ∧ Below base w w' := by
  obtain ⟨a', p, _, at', t', o, f⟩ := h
  refine ⟨⟨a', p, at', t', fun x hx => ?_⟩, o.below hF hb⟩
  rcases f x hx with h | h
  · exact hF x h
  · exact Nat.le_trans hb h
theorem SD.keep {base : Nat} {w w' : World} {P : Nat} {d : Dk.D} (h : SD base w P d) (hb : Below w.heap.size w w') : SD base w' P d := by
  obtain ⟨a, p, h1, h2, h3⟩ := h
  exact ⟨a, p, h1.same (fun b hb' => hb.block b (h2.all b hb')), h2.more hb.size, h3⟩
theorem MadePost.sd {w w' : World} {d : Dk.D} {e : Ending} (h : MadePost w d e w') : ∃ P, e = .returned (.pointer (some ⟨P, 0, none⟩)) ∧ SD w.heap.size w' P d ∧ Below w.heap.size w w' := by
  obtain ⟨a, e1, h1, h2, h3, h4⟩ := h
  exact ⟨a.P, e1, ⟨a, rfl, h1, h2, h4⟩, h3⟩
def IntSD (base : Nat) (w : World) (P : Nat) (x : Int) (d' : Dk.D) (e : Ending) (w' : World) : Prop := e = .returned (.int .i64 x) ∧ SD base w' P d' ∧ Below base w w'
def NoSD (base : Nat) (w : World) (P : Nat) (d' : Dk.D) (e : Ending) (w' : World) : Prop := e = .returned (.tuple #[]) ∧ SD base w' P d' ∧ Below base w w'

section
variable {base : Nat} {w : World} {P : Nat} {d : Dk.D}
theorem write_sd (h : SD base w P d) (hb : base ≤ w.heap.size) (hst : d.st.length ≤ 1048575) (i : Int) (A : Option Addr) (cap : Nat) (l : List UInt8) (hl : l.length ≤ 9223372036854775807) (hA : BInB w base A l) :
    Calls Try.prog 33 #[.pointer (some ⟨P, 0, none⟩), .int .i64 i, .slice A l.length cap] w (IntSD base w P (d.writeE i l) (d.write i l)) := by
  obtain ⟨a, rfl, h1, h2, h3⟩ := h
  refine (write_any w a d i A cap l h1 h2 hst hl (hA.bin hb) (fun hn ad e hx => ?_)).mono ?_
  · obtain ⟨b, off, e2, hlt, _⟩ := hA hn
    have h5 := h3 _ hx
    rw [e] at e2
    injection e2 with e2
    rw [e2] at h5
    dsimp only at h5
    omega
  · rintro e w' ⟨rfl, hs⟩
    exact ⟨rfl, hs.sd h3 hb⟩
theorem sync_sd (h : SD base w P d) (hb : base ≤ w.heap.size) (hst : d.st.length ≤ 1048576) :
    Calls Try.prog 32 #[.pointer (some ⟨P, 0, none⟩)] w (IntSD base w P d.syncE d.sync) := by
  obtain ⟨a, rfl, h1, h2, h3⟩ := h
  exact (sync_any w a d h1 h2 hst).mono (by rintro e w' ⟨rfl, hs⟩; exact ⟨rfl, hs.sd h3 hb⟩)
theorem drop_sd (h : SD base w P d) (hb : base ≤ w.heap.size) : Calls Try.prog 34 #[.pointer (some ⟨P, 0, none⟩)] w (NoSD base w P d.drop) := by
  obtain ⟨a, rfl, h1, h2, h3⟩ := h
  exact (drop_any w a d h1 h2).mono (by rintro e w' ⟨rfl, hs⟩; exact ⟨rfl, hs.sd h3 hb⟩)
theorem stop_sd (h : SD base w P d) (hb : base ≤ w.heap.size) (n : Int) (hn : I64 n) : Calls Try.prog 35 #[.pointer (some ⟨P, 0, none⟩), .int .i64 n] w (NoSD base w P (d.stop n)) := by
  obtain ⟨a, rfl, h1, h2, h3⟩ := h
  exact (stop_any w a d n h1 h2 hn).mono (by rintro e w' ⟨rfl, hs⟩; exact ⟨rfl, hs.sd h3 hb⟩)
theorem faults_sd (h : SD base w P d) (hb : base ≤ w.heap.size) (A : Option Addr) (cap : Nat) (p : List Bool) (hp : PlanIn w A cap p) : Calls Try.prog 31 #[.pointer (some ⟨P, 0, none⟩), .slice A p.length cap] w (NoSD base w P { d with plan := p }) := by
  obtain ⟨a, rfl, h1, h2, h3⟩ := h
  exact (faults_any w a d A cap p h1 h2 hp).mono (by rintro e w' ⟨rfl, hs⟩; exact ⟨rfl, hs.sd h3 hb⟩)
theorem crash_sd (h : SD base w P d) (hb : base ≤ w.heap.size) (hst : d.st.length ≤ 1048576) (A : Option Addr) (cap : Nat) (l : List UInt8) (hl : l.length ≤ 9223372036854775807) (hA : BInB w base A l) :
    Calls Try.prog 30 #[.pointer (some ⟨P, 0, none⟩), .slice A l.length cap] w (NoSD base w P (d.crash l)) := by
  obtain ⟨a, rfl, h1, h2, h3⟩ := h
  refine (crash_any w a d A cap l h1 h2 hst hl (hA.bin hb) (fun hn ad e hx => ?_)).mono ?_
  · obtain ⟨b, off, e2, hlt, _⟩ := hA hn
    have h5 := h3 _ hx
    rw [e] at e2
    injection e2 with e2
    rw [e2] at h5
    dsimp only at h5
    omega
  · rintro e w' ⟨rfl, hs⟩
    exact ⟨rfl, hs.sd h3 hb⟩
end

set_option maxHeartbeats 1600000 in
theorem do_any (base : Nat) (w : World) (P : Nat) (d : Dk.D) (o : Dk.O) (m : Om) (h : SD base w P d) (hb : base ≤ w.heap.size) (hst : d.st.length ≤ 1048575) (ho : OpIn w base o m) (hp1 : o.p.length ≤ 1048576) :
    Calls Try.prog 13 #[.pointer (some ⟨P, 0, none⟩), .agg (opCells o m).toArray] w (IntSD base w P (d.exE o) (d.ex o)) := by
  obtain ⟨x, i, b, p⟩ := o
  obtain ⟨A, cA, G, cG⟩ := m
  obtain ⟨hob, hop, hlb, hlp, hoi⟩ := ho
  dsimp only at hob hop hlb hlp hoi hp1
  have hba : Below w.heap.size w (w.alloc (.cells #[.int .i64 x, .int .i64 i, .slice A b.length cA, .slice G p.length cG] 32)) := (Below.refl _ _).alloc (Nat.le_refl _) _
  have HSD := Lib.hid (h.keep hba)
  have HB := Lib.hid (Nat.le_trans hb hba.size)
  have HOB := Lib.hid (hob.keep (hba.mono hb))
  have HPL : Hid (PlanIn (w.alloc (.cells #[.int .i64 x, .int .i64 i, .slice A b.length cA, .slice G p.length cG] 32)) G cG p) := Lib.hid (by
    obtain ⟨g1, g2⟩ := hop.keep (hba.mono hb)
    refine ⟨g1, hp1, fun hn => ?_⟩
    obtain ⟨bb, off, e, hlt, hc⟩ := g2 hn
    exact ⟨bb, off, e, by have := hba.size; omega, hc⟩)
  have HBA := Lib.hid (hba.mono hb)
  unfold opCells
  clear h hob hop hba hb
  by_cases h1 : x = 1
  · subst h1
    have HE : Hid (∀ w', SD base w' P (d.write i b) ∧ Below base (w.alloc (.cells #[.int .i64 1, .int .i64 i, .slice A b.length cA, .slice G p.length cG] 32)) w' → IntSD base w P (Dk.D.exE d ⟨1, i, b, p⟩) (Dk.D.ex d ⟨1, i, b, p⟩) (.returned (.int .i64 (d.writeE i b))) w') := Lib.hid (by
      rintro w' ⟨h1, h2⟩
      exact ⟨rfl, h1, HBA.out.trans h2⟩)
    go_enter Try.func13, Try.ntmps13
    go_wp2_with fail
    refine (write_sd HSD.out HB.out hst i A cA b hlb HOB.out).mono ?_
    rintro e w' ⟨rfl, hs⟩
    have HE2 := Lib.hid (HE.out _ hs)
    clear hs HE
    go_wp2_with fail
    go_ret
    exact HE2.out
  by_cases h2 : x = 2
  · subst h2
    have HE : Hid (∀ w', SD base w' P d.sync ∧ Below base (w.alloc (.cells #[.int .i64 2, .int .i64 i, .slice A b.length cA, .slice G p.length cG] 32)) w' → IntSD base w P (Dk.D.exE d ⟨2, i, b, p⟩) (Dk.D.ex d ⟨2, i, b, p⟩) (.returned (.int .i64 (d.syncE))) w') := Lib.hid (by
      rintro w' ⟨h1, h2⟩
      exact ⟨rfl, h1, HBA.out.trans h2⟩)
    go_enter Try.func13, Try.ntmps13
    go_wp2_with fail
    refine (sync_sd HSD.out HB.out (by omega)).mono ?_
    rintro e w' ⟨rfl, hs⟩
    have HE2 := Lib.hid (HE.out _ hs)
    clear hs HE
    go_wp2_with fail
    go_ret
    exact HE2.out
  by_cases h3 : x = 3
  · subst h3
    have HE : Hid (∀ w', SD base w' P d.drop ∧ Below base (w.alloc (.cells #[.int .i64 3, .int .i64 i, .slice A b.length cA, .slice G p.length cG] 32)) w' → IntSD base w P (Dk.D.exE d ⟨3, i, b, p⟩) (Dk.D.ex d ⟨3, i, b, p⟩) (.returned (.int .i64 (0))) w') := Lib.hid (by
      rintro w' ⟨h1, h2⟩
      exact ⟨rfl, h1, HBA.out.trans h2⟩)
    go_enter Try.func13, Try.ntmps13
    go_wp2_with fail
    refine (drop_sd HSD.out HB.out).mono ?_
    rintro e w' ⟨rfl, hs⟩
    have HE2 := Lib.hid (HE.out _ hs)
    clear hs HE
    go_wp2_with fail
    go_ret
    exact HE2.out
  by_cases h4 : x = 4
  · subst h4
    have HE : Hid (∀ w', SD base w' P (d.crash b) ∧ Below base (w.alloc (.cells #[.int .i64 4, .int .i64 i, .slice A b.length cA, .slice G p.length cG] 32)) w' → IntSD base w P (Dk.D.exE d ⟨4, i, b, p⟩) (Dk.D.ex d ⟨4, i, b, p⟩) (.returned (.int .i64 (0))) w') := Lib.hid (by
      rintro w' ⟨h1, h2⟩
      exact ⟨rfl, h1, HBA.out.trans h2⟩)
    go_enter Try.func13, Try.ntmps13
    go_wp2_with fail
    refine (crash_sd HSD.out HB.out (by omega) A cA b hlb HOB.out).mono ?_
    rintro e w' ⟨rfl, hs⟩
    have HE2 := Lib.hid (HE.out _ hs)
    clear hs HE
    go_wp2_with fail
    go_ret
    exact HE2.out
  by_cases h5 : x = 5
  · subst h5
    have HE : Hid (∀ w', SD base w' P { d with plan := p } ∧ Below base (w.alloc (.cells #[.int .i64 5, .int .i64 i, .slice A b.length cA, .slice G p.length cG] 32)) w' → IntSD base w P (Dk.D.exE d ⟨5, i, b, p⟩) (Dk.D.ex d ⟨5, i, b, p⟩) (.returned (.int .i64 (0))) w') := Lib.hid (by
      rintro w' ⟨h1, h2⟩
      exact ⟨rfl, h1, HBA.out.trans h2⟩)
    go_enter Try.func13, Try.ntmps13
    go_wp2_with fail
    refine (faults_sd HSD.out HB.out G cG p HPL.out).mono ?_
    rintro e w' ⟨rfl, hs⟩
    have HE2 := Lib.hid (HE.out _ hs)
    clear hs HE
    go_wp2_with fail
    go_ret
    exact HE2.out
  by_cases h6 : x = 6
  · subst h6
    have HE : Hid (∀ w', SD base w' P (d.stop i) ∧ Below base (w.alloc (.cells #[.int .i64 6, .int .i64 i, .slice A b.length cA, .slice G p.length cG] 32)) w' → IntSD base w P (Dk.D.exE d ⟨6, i, b, p⟩) (Dk.D.ex d ⟨6, i, b, p⟩) (.returned (.int .i64 (0))) w') := Lib.hid (by
      rintro w' ⟨h1, h2⟩
      exact ⟨rfl, h1, HBA.out.trans h2⟩)
    go_enter Try.func13, Try.ntmps13
    go_wp2_with fail
    refine (stop_sd HSD.out HB.out i hoi).mono ?_
    rintro e w' ⟨rfl, hs⟩
    have HE2 := Lib.hid (HE.out _ hs)
    clear hs HE
    go_wp2_with fail
    go_ret
    exact HE2.out
  have HE : Hid (IntSD base w P (Dk.D.exE d ⟨x, i, b, p⟩) (Dk.D.ex d ⟨x, i, b, p⟩) (.returned (.int .i64 0)) (w.alloc (.cells #[.int .i64 x, .int .i64 i, .slice A b.length cA, .slice G p.length cG] 32))) := Lib.hid (by
    unfold Dk.D.exE Dk.D.ex
    dsimp only
    rw [if_neg h1, if_neg h2, if_neg h1, if_neg h2, if_neg h3, if_neg h4, if_neg h5, if_neg h6]
    exact ⟨rfl, HSD.out, HBA.out⟩)
  have e1 : (x == 1) = false := by simpa using h1
  have e2 : (x == 2) = false := by simpa using h2
  have e3 : (x == 3) = false := by simpa using h3
  have e4 : (x == 4) = false := by simpa using h4
  have e5 : (x == 5) = false := by simpa using h5
  have e6 : (x == 6) = false := by simpa using h6
  clear h1 h2 h3 h4 h5 h6
  go_enter Try.func13, Try.ntmps13
  go_wp2_with fail
  go_ret
  exact HE.out

/-- A disk behind things that were done. -/
def BehindRel (w : World) (base P n : Nat) (d0 : Dk.D) (l : List Dk.O) (iv : Value) (wr : World) : Prop :=
  ∃ k : Nat, k ≤ n ∧ iv = .int .i64 k ∧ SD base wr P (Dk.run d0 (l.take k)) ∧ Below base w wr

def BehindPost (w : World) (base : Nat) (d : Dk.D) (e : Ending) (w' : World) : Prop := ∃ P, e = .returned (.pointer (some ⟨P, 0, none⟩)) ∧ SD base w' P d ∧ Below base w w'

set_option maxHeartbeats 1600000 in
theorem behind_any (w : World) (bd : Nat) (blocks : Int) (A : Option Addr) (cap : Nat) (l : List Dk.O) (h : OpsIn w bd A l) (hbd : bd ≤ w.heap.size) (hf : Dk.fewB l = true) :
    Calls Try.prog 29 #[.int .i64 blocks, .slice A l.length cap] w (BehindPost w w.heap.size (Dk.run (Dk.new blocks) l)) := by
  have hfew : (∀ o ∈ l, o.b.length ≤ 100 ∧ o.p.length ≤ 100) ∧ l.length ≤ 40 := by
    unfold Dk.fewB Dk.okO at hf
    simp at hf
    exact ⟨fun o ho => hf.1 o ho, hf.2⟩
  obtain ⟨hf1, hf2⟩ := hfew
  have HF1 := Lib.hid hf1
  obtain ⟨n, hn⟩ : ∃ n, n = l.length := ⟨_, rfl⟩
  rw [← hn] at hf2 ⊢
  have HN := Lib.hid hn
  obtain ⟨base, hbase⟩ : ∃ base, base = w.heap.size := ⟨_, rfl⟩
  have HBS := Lib.hid hbase
  rw [← hbase]
  have hNew := new_any w blocks
  have HO := Lib.hid h
  obtain ⟨d0, hd0⟩ : ∃ d0, d0 = Dk.new blocks := ⟨_, rfl⟩
  have hd0s : d0.st.length = 0 := by rw [hd0]; rfl
  have HD0S := Lib.hid hd0s
  rw [← hd0] at hNew ⊢
  clear hn hd0 hd0s hf hf1 h
  go_enter Try.func29, Try.ntmps29
  go_wp2_with fail
  refine hNew.mono ?_
  intro e w1 hmade
  obtain ⟨P, rfl, hsd, hb1⟩ := hmade.sd
  rw [← hbase] at hsd hb1
  clear hbase hmade hNew
  go_wp2_with fail
  go_loopw [6] (fun iv wr => BehindRel w base P n d0 l iv wr) (fun iv _ => n - (intOf iv).toNat)
  case atStart => exact ⟨0, Nat.zero_le _, rfl, hsd, hb1⟩
  case round =>
    obtain ⟨k, hk, rfl, hsdr, hbr⟩ := hrel
    by_cases hlt : k < n
    · have hkl : k < l.length := by have := HN.out; omega
      have hbb : bd ≤ base := by have := HBS.out; omega
      have hO := HO.out.keep (hbr.mono hbb)
      obtain ⟨b, off, rfl, hbl, hc⟩ := hO (by omega)
      obtain ⟨m, hm, hin⟩ := hc k hkl
      have HSN : Hid (Dk.run d0 (l.take (k + 1)) = (Dk.run d0 (l.take k)).ex l[k]) := Lib.hid (by rw [List.take_succ_eq_append_getElem hkl, Dk.run_snoc])
      have hst : (Dk.run d0 (l.take k)).st.length ≤ 1048575 := by
        have h1 := Dk.run_st d0 (l.take k)
        rw [HD0S.out, List.length_take] at h1
        omega
      have hok := HF1.out l[k] (List.getElem_mem hkl)
      obtain ⟨o, ho⟩ : ∃ o, o = l[k] := ⟨_, rfl⟩
      rw [← ho] at hm hin HSN hok
      obtain ⟨dk, hdk⟩ : ∃ dk, dk = Dk.run d0 (l.take k) := ⟨_, rfl⟩
      rw [← hdk] at hsdr HSN hst
      have hpl : o.p.length ≤ 1048576 := by omega
      have hin2 : OpIn wr base o m := ⟨fun hn => by
          obtain ⟨b, off, e, h1, h2⟩ := hin.b hn
          exact ⟨b, off, e, by omega, h2⟩, ⟨hin.p.1, fun hn => by
          obtain ⟨b, off, e, h1, h2⟩ := hin.p.2 hn
          exact ⟨b, off, e, by omega, h2⟩⟩, hin.lb, hin.lp, hin.i⟩
      have hbsz : base ≤ wr.heap.size := by
        obtain ⟨a, _, _, ht, hF⟩ := hsdr
        have h1 := ht.all a.P ((mem_F a _).2 (.inl rfl))
        have h2 := hF a.P ((mem_F a _).2 (.inl rfl))
        omega
      have hdo := do_any base wr P dk o m hsdr hbsz hst hin2 hpl
      have hrg : wr.rangeAt b (off + k * 4) (opCells o m) := fun j v hv => by rw [Nat.add_assoc]; exact hm j v hv
      have h1k : (0 : Int) ≤ (k : Int) := by omega
      have hkI : (k : Int) < (n : Int) := by omega
      clear ho hdk hkl hO hc hm hin hok hsdr hst
      go_wp2_with ((with_reducible refine wpList_load_mid (op := ⟨some 21, _, _, _, _, _⟩) rfl 32 _ rfl b (off + k * 4) ?_ (opCells o m) _ hrg Try.underlying32 rfl (by kernel_rfl) ?_); exact rfl)
      refine hdo.mono ?_
      rintro e w2 ⟨rfl, hs2, hb2⟩
      have HS2 : Hid (BehindRel w base P n d0 l (.int .i64 ((k + 1 : Nat) : Int)) w2) := Lib.hid ⟨k + 1, by omega, rfl, by rw [HSN.out]; exact hs2, hbr.trans hb2⟩
      clear hs2 hb2 hdo hrg hin2 hbr
      go_wp2_with fail
      go_roundw
      case rel => exact HS2.out
      case measure => simp [intOf]; omega
    · have hkI : ¬ (k : Int) < (n : Int) := by omega
      have HE : Hid (SD base wr P (Dk.run d0 l)) := Lib.hid (by
        have e := HN.out
        rw [List.take_of_length_le (by omega)] at hsdr
        exact hsdr)
      clear hsdr
      go_wp2_with fail
      go_ret
      exact ⟨P, rfl, HE.out, hbr⟩
end Go.Proofs.Ytoaadallbpelbaa
