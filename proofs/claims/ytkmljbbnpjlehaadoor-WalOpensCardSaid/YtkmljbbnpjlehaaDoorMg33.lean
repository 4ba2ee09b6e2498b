/- The chapter's example comes out. Condition: the table of sums reads as its text lays it. A log and its disk, where some blocks beside them are looked at behind a step; and a round of the statement that what was answered stays. No condition. -/
import Derived.Test.YtkmljbbnpjlehaaDoorMg31
import Derived.Test.YtkmljbbnpjlehaaDoorMg32
namespace Go.Proofs.YtkmljbbnpjlehaaDoor
set_option maxRecDepth 8000
open Go.RowKit

/-- One byte is appended to a new log. -/
theorem one_byte : ∃ d', Wl.append (Dk.new 6) ⟨0, 0, []⟩ [1] = (0, d', ⟨1, 0, Fr.frame [1]⟩) ∧ d'.n = 6 ∧ d'.st = [] := by
  have hok : Fr.ok [1] = true := by decide
  have hinv : Wl.Inv 0 6 (Dk.new 6).kept ⟨0, 0, []⟩ := Wl.inv_new 0 (by decide) (by decide)
  rcases hinv.append (by decide) rfl rfl [1] with ⟨e, _, he⟩ | hk
  · unfold Wl.append at he
    rw [Fr.put_ok hok] at he
    dsimp only at he
    unfold Wl.keep at he
    split at he
    · injection he with he _; omega
    · dsimp only at he
      split at he
      · injection he with he _; omega
      · injection he with he _; omega
  · have hf := hk.fresh ⟨by decide, rfl⟩
    have hnf : ¬ (Wl.areaBytes (Dk.new 6).n < ([] ++ Fr.frame [1] : List UInt8).length ∨ (0 : Nat) = 262143) := by
      rw [List.nil_append, Fr.frame_len]
      decide
    have hA : Wl.append (Dk.new 6) ⟨0, 0, []⟩ [1] = (if (Wl.runC (Dk.new 6) (Wl.keepC (Dk.new 6).n 0 0 ([] ++ Fr.frame [1]) 1)).2 then (0, (Wl.runC (Dk.new 6) (Wl.keepC (Dk.new 6).n 0 0 ([] ++ Fr.frame [1]) 1)).1, ⟨1, 0, [] ++ Fr.frame [1]⟩) else (21, (Wl.runC (Dk.new 6) (Wl.keepC (Dk.new 6).n 0 0 ([] ++ Fr.frame [1]) 1)).1.drop, ⟨0, 0, []⟩)) := by
      unfold Wl.append
      rw [Fr.put_ok hok]
      dsimp only
      unfold Wl.keep
      rw [if_neg hnf]
      rfl
    cases hr : (Wl.runC (Dk.new 6) (Wl.keepC (Dk.new 6).n 0 0 ([] ++ Fr.frame [1]) 1)).2 with
    | false =>
      rw [hr] at hA
      exact absurd (by rw [hA]; rfl) hf.1
    | true =>
      rw [hr] at hA
      have hd := hk.done (by rw [hA]; rfl)
      rw [hA] at hd
      exact ⟨_, by rw [hA]; rfl, hd.2.2.1, hd.2.1⟩

set_option maxHeartbeats 1600000 in
theorem awake10_any (w : World) (hH : Hs w) (hz : 0 < w.heap.size) :
    Calls Tryd.prog 12 #[] w fun e w' => e = .returned (.bool true) ∧ Below w.heap.size w w' := by
  obtain ⟨d', happ, hn', hst'⟩ := one_byte
  have hinv : Wl.Inv 0 6 (Dk.new 6).kept ⟨0, 0, []⟩ := Wl.inv_new 0 (by decide) (by decide)
  have HNEW := Lib.hid (new_any w 6)
  obtain ⟨dn, hdn⟩ : ∃ dn, dn = Dk.new 6 := ⟨_, rfl⟩
  rw [← hdn] at HNEW hinv happ
  have hn6 : dn.n = 6 := by rw [hdn]; rfl
  have hst6 : dn.st = [] := by rw [hdn]; rfl
  have HH := Lib.hid hH
  have HI := Lib.hid (And.intro hinv (And.intro happ (And.intro hn' hst')))
  have hfl : (Fr.frame [1]).length = 7 := Fr.frame_len _
  have hsc : (Fr.scan (Fr.frame [1])).1 = [[1]] := by
    have h := Fr.scan_all (l := [[1]]) (by decide)
    have e : Fr.frames [[1]] = Fr.frame [1] := by
      rw [Fr.frames_cons]
      show Fr.frame [1] ++ [] = _
      rw [List.append_nil]
    rw [e] at h
    rw [h]
  have HFR := Lib.hid (And.intro hfl hsc)
  clear hinv happ hn' hst' hdn hfl hsc hH
  go_enter Tryd.func12, Tryd.ntmps12
  go_wp2_with fail
  refine HNEW.out.mono ?_
  intro e w1 hmade
  obtain ⟨P, rfl, hsd, hb1⟩ := hmade.sd
  have HOP := Lib.hid (walOpen_any w1 P dn (HH.out.next hb1) (hsd.base (Nat.zero_le _)) hst6)
  rw [hn6, HI.out.1.openK] at HOP
  have HSD := Lib.hid hsd
  have HB1 := Lib.hid hb1
  clear hsd hb1 hmade HNEW
  go_wp2_with fail
  refine HOP.out.mono ?_
  intro e w2 hop
  obtain ⟨L, rfl, hsy, hb2⟩ := sy_new HSD.out HB1.out hop
  have HSY := Lib.hid hsy
  have HB2 := Lib.hid hb2
  clear hsy hb2 hop HOP HSD HB1
  go_wp2_with fail
  have hba : Below w2.heap.size w2 (w2.alloc (.cells #[.int .u8 1] 5)) := (Below.refl _ _).alloc (Nat.le_refl _) _
  have hbl : (w2.alloc (.cells #[.int .u8 1] 5)).heap[w2.heap.size]? = some (.cells (([1] : List UInt8).map B).toArray 5 (0, 0)) := heap_alloc_new w2 _
  have HAP := Lib.hid (append_any _ _ P L dn ⟨0, 0, []⟩ (some ⟨w2.heap.size, 0, none⟩) 1 1 [1] (HH.out.next (HB2.out.trans (hba.mono HB2.out.size))) (HSY.out.keep hba) (fun h => by have := h.1; omega) hst6 (by rw [hn6]; decide) (by decide) (by decide) (by decide) (bc_made hbl) rfl (by decide) (by decide))
  rw [HI.out.2.1] at HAP
  have HBA := Lib.hid hba
  clear hba hbl
  refine HAP.out.mono ?_
  rintro e w3 ⟨rfl, hsy3, ho3⟩
  dsimp only at hsy3 ⊢
  have hb3 : Below w.heap.size w w3 := (HB2.out.trans (HBA.out.mono HB2.out.size)).trans (ho3.below (base := w.heap.size) (fun x h => h.1) (by have := HB2.out.size; have := HBA.out.size; omega))
  have HUS := Lib.hid (used_sy hsy3)
  have HGE := Lib.hid (gen_sy hsy3)
  have HRO := Lib.hid (room_sy hsy3 (by rw [HI.out.2.2.1]; decide) (by rw [HI.out.2.2.1]; dsimp only; rw [HFR.out.1]; decide))
  have HRE := Lib.hid (records_sy hsy3 (HH.out.next hb3) (by dsimp only; rw [HFR.out.1]; decide))
  dsimp only at HUS HGE HRO
  rw [HFR.out.1] at HUS HRO
  rw [HI.out.2.2.1] at HRO
  have e57 : ((Wl.areaBytes 6 : Nat) : Int) - ((7 : Nat) : Int) = 57 := by decide
  rw [e57] at HRO
  have er : Wl.rds ⟨1, 0, Fr.frame [1]⟩ = [[1]] := HFR.out.2
  rw [er] at HRE
  have HB3 := Lib.hid hb3
  clear hsy3 ho3 hb3 HAP HBA HSY
  go_wp2_with fail
  refine HUS.out.mono ?_
  rintro _ _ ⟨rfl, rfl⟩
  go_wp2_with fail
  refine HRO.out.mono ?_
  rintro _ _ ⟨rfl, rfl⟩
  go_wp2_with fail
  refine HGE.out.mono ?_
  rintro _ _ ⟨rfl, rfl⟩
  go_wp2_with fail
  refine HRE.out.mono ?_
  rintro _ w4 ⟨A4, c4, m4, rfl, hm4, hlc4, hb4⟩
  have hm4' : m4 = 1 := hm4
  subst hm4'
  have hbw4 := HB3.out.trans (hb4.mono HB3.out.size)
  have HLC4 := Lib.hid hlc4
  have HB4 := Lib.hid hbw4
  clear HUS HRO HGE HRE hm4 hlc4 hb4 hbw4
  go_wp2_with fail
  have hb5 : Below w4.heap.size w4 (w4.alloc (.cells #[.int .u8 1] 5)) := (Below.refl _ _).alloc (Nat.le_refl _) _
  have hbl5 : (w4.alloc (.cells #[.int .u8 1] 5)).heap[w4.heap.size]? = some (.cells (([1] : List UInt8).map B).toArray 5 (0, 0)) := heap_alloc_new w4 _
  have hbc5 := bc_made hbl5
  have hb6 : Below (w4.alloc (.cells #[.int .u8 1] 5)).heap.size (w4.alloc (.cells #[.int .u8 1] 5)) ((w4.alloc (.cells #[.int .u8 1] 5)).alloc (.cells #[.slice (some ⟨w4.heap.size, 0, none⟩) 1 1] 36)) := (Below.refl _ _).alloc (Nat.le_refl _) _
  have hbl6 : ((w4.alloc (.cells #[.int .u8 1] 5)).alloc (.cells #[.slice (some ⟨w4.heap.size, 0, none⟩) 1 1] 36)).heap[w4.heap.size + 1]? = some (.cells #[.slice (some ⟨w4.heap.size, 0, none⟩) 1 1] 36 (0, 0)) := by
    have := heap_alloc_new (w4.alloc (.cells #[.int .u8 1] 5)) (.cells #[.slice (some ⟨w4.heap.size, 0, none⟩) 1 1] 36)
    rwa [World.size_alloc] at this
  have HLI := Lib.hid (refLists_any A4 (some ⟨w4.heap.size + 1, 0, none⟩) c4 1 1 1 [[1]] [[1]] _ rfl rfl ((HLC4.out.next hb5).next hb6) (lc_one hbl6 rfl (hbc5.next hb6)) (by omega))
  have HB6 := Lib.hid ((HB4.out.trans (hb5.mono HB4.out.size)).trans (hb6.mono (by have := HB4.out.size; have := hb5.size; omega)))
  clear hb5 hbl5 hbc5 hb6 hbl6 HLC4
  refine HLI.out.mono ?_
  rintro _ w7 ⟨rfl, hb7⟩
  have hbw7 := HB6.out.trans (hb7.mono HB6.out.size)
  go_wp2_with fail
  go_ret
  first
    | exact ⟨rfl, hbw7⟩
    | exact ⟨ret_bool (by simp), hbw7⟩
end Go.Proofs.YtkmljbbnpjlehaaDoor
namespace Go.Proofs.YtkmljbbnpjlehaaDoor
set_option maxRecDepth 8000
open Go.RowKit

/-- A log and its disk in block base or later, none of whose blocks is one of S. -/
def SZ (base : Nat) (S : List Nat) (w : World) (P L : Nat) (d : Dk.D) (l : Wl.L) : Prop :=
  ∃ F : Nat → Prop, SY F w P L d l ∧ (∀ x, F x → base ≤ x ∧ x < w.heap.size) ∧ ∀ x ∈ S, ¬ F x ∧ x < w.heap.size
theorem SZ.step {base : Nat} {S : List Nat} {F : Nat → Prop} {w w' : World} {P L' : Nat} {d' : Dk.D} {l' : Wl.L} (hF : ∀ x, F x → base ≤ x ∧ x < w.heap.size) (hS : ∀ x ∈ S, ¬ F x ∧ x < w.heap.size) (hb : base ≤ w.heap.size) (h : SY (Or F w.heap.size w'.heap.size) w' P L' d' l') (ho : OutP F w w') :
    SZ base S w' P L' d' l' ∧ SameX S w w' ∧ Below base w w' := by
  have hz := ho.size
  refine ⟨⟨_, h, fun x hx => ?_, fun x hx => ⟨fun hor => hor.elim (hS x hx).1 (fun h => by have := (hS x hx).2; omega), by have := (hS x hx).2; omega⟩⟩, fun x hx => ho.block x (hS x hx).2 (hS x hx).1, ho.below (fun x hx => (hF x hx).1) hb⟩
  rcases hx with hx | hx
  · exact ⟨(hF x hx).1, by have := (hF x hx).2; omega⟩
  · exact ⟨by omega, hx.2⟩
theorem SZ.keep {base : Nat} {S : List Nat} {w w' : World} {P L : Nat} {d : Dk.D} {l : Wl.L} (h : SZ base S w P L d l) (hb : Below w.heap.size w w') : SZ base S w' P L d l := by
  obtain ⟨F, h1, h2, h3⟩ := h
  exact ⟨F, h1.keep hb, fun x hx => ⟨(h2 x hx).1, Nat.lt_of_lt_of_le (h2 x hx).2 hb.size⟩, fun x hx => ⟨(h3 x hx).1, Nat.lt_of_lt_of_le (h3 x hx).2 hb.size⟩⟩
/-- Other blocks are looked at: new ones. -/
theorem SZ.with {base : Nat} {S S' : List Nat} {w w' : World} {P L : Nat} {d : Dk.D} {l : Wl.L} (h : SZ base S w P L d l) (hb : Below w.heap.size w w') (hS : ∀ x ∈ S', x ∈ S ∨ w.heap.size ≤ x ∧ x < w'.heap.size) : SZ base S' w' P L d l := by
  obtain ⟨F, h1, h2, h3⟩ := h
  have hz := hb.size
  refine ⟨F, h1.keep hb, fun x hx => ⟨(h2 x hx).1, Nat.lt_of_lt_of_le (h2 x hx).2 hb.size⟩, fun x hx => ?_⟩
  rcases hS x hx with hx | hx
  · exact ⟨(h3 x hx).1, Nat.lt_of_lt_of_le (h3 x hx).2 hb.size⟩
  · exact ⟨fun hf => by have := (h2 x hf).2; omega, hx.2⟩
def ZPost (base : Nat) (S : List Nat) (w : World) (P L : Nat) (d' : Dk.D) (l' : Wl.L) (w' : World) : Prop := SZ base S w' P L d' l' ∧ SameX S w w' ∧ Below base w w'
section
variable {base : Nat} {S : List Nat} {w : World} {P L : Nat} {d : Dk.D} {l : Wl.L}
theorem stop_z (h : SZ base S w P L d l) (hb : base ≤ w.heap.size) (n : Int) (hn : I64 n) : Calls Tryd.prog 34 #[.pointer (some ⟨P, 0, none⟩), .int .i64 n] w fun e w' => e = .returned (.tuple #[]) ∧ ZPost base S w P L (d.stop n) l w' := by
  obtain ⟨F, h1, h2, h3⟩ := h
  refine (stop_sy h1 n hn).mono ?_
  rintro e w' ⟨rfl, h4, h5⟩
  exact ⟨rfl, SZ.step h2 h3 hb h4 h5⟩
theorem crash_z (h : SZ base S w P L d l) (hb : base ≤ w.heap.size) (hst : d.st.length ≤ 1048576) (A : Option Addr) (cap n : Nat) (b : List UInt8) (hn : b.length = n) (hl : n ≤ 9223372036854775807) (hA : BCells w base A b) :
    Calls Tryd.prog 35 #[.pointer (some ⟨P, 0, none⟩), .slice A n cap] w fun e w' => e = .returned (.tuple #[]) ∧ ZPost base S w P L (d.crash b) l w' := by
  obtain ⟨F, h1, h2, h3⟩ := h
  subst hn
  refine (crash_sy h1 hst A cap b hl (hA.moreB hb) (fun hn ad e hf => ?_)).mono ?_
  · obtain ⟨b', o', e', hlt, _⟩ := hA hn
    rw [e] at e'
    injection e' with e'
    have := (h2 _ hf).1
    rw [e'] at this
    dsimp only at this
    omega
  rintro e w' ⟨rfl, h4, h5⟩
  exact ⟨rfl, SZ.step h2 h3 hb h4 h5⟩
theorem append_z (h : SZ base S w P L d l) (hb : base ≤ w.heap.size) (hH : Hs w) (h0 : 0 < base) (hst : d.st = []) {c N : Nat} (hn : d.n = N) (hi : Wl.Inv c N d.kept l) (A : Option Addr) (cp n : Nat) (b : List UInt8) (hA : BCells w base A b) (hbn : b.length = n) (hnc : n ≤ cp) (hc : cp ≤ 9223372036854775807) :
    Calls Tryd.prog 56 #[.pointer (some ⟨L, 0, none⟩), .slice A n cp] w fun e w' => e = .returned (.int .i64 (Wl.append d l b).1) ∧ ZPost base S w P L (Wl.append d l b).2.1 (Wl.append d l b).2.2 w' := by
  obtain ⟨F, h1, h2, h3⟩ := h
  have hu := hi.used
  have hul := Wl.areaBytes_lt hi.n512
  refine (append_any F w P L d l A cp n b hH h1 (fun hf => by have := (h2 _ hf).1; omega) hst (by rw [hn]; exact hi.n4) hi.gen hi.a1 (by omega) (hA.moreB hb) hbn hnc hc).mono ?_
  rintro e w' ⟨rfl, h4, h5⟩
  exact ⟨rfl, SZ.step h2 h3 hb h4 h5⟩
theorem open_z (h : SZ base S w P L d l) (hb : base ≤ w.heap.size) (hH : Hs w) (hst : d.st = []) {c N : Nat} {l' : Wl.L} (hn : d.n = N) (hi : Wl.Inv c N d.kept l') :
    Calls Tryd.prog 16 #[.pointer (some ⟨P, 0, none⟩)] w fun e w' => ∃ L', e = .returned (.tuple #[.pointer (some ⟨L', 0, none⟩), .int .i64 0]) ∧ ZPost base S w P L' d l' w' := by
  obtain ⟨F, h1, h2, h3⟩ := h
  refine (open_sy h1 hH hst hn hi).mono ?_
  rintro e w' ⟨L', rfl, h4, h5⟩
  exact ⟨L', rfl, SZ.step h2 h3 hb h4 (OutP.of h5)⟩
theorem records_z (h : SZ base S w P L d l) (hH : Hs w) {c N : Nat} {kept : List UInt8} (hi : Wl.Inv c N kept l) : Calls Tryd.prog 33 #[.pointer (some ⟨L, 0, none⟩)] w (RecPost (Wl.rds l) w) := by
  obtain ⟨F, h1, h2, h3⟩ := h
  have hu := hi.used
  have hul := Wl.areaBytes_lt hi.n512
  exact records_sy h1 hH (by omega)
end
namespace Wl
open Dk (D)
def stopD (d : D) : Option Nat → D
  | none => d
  | some s => d.stop (s : Int)
def crashD (d : D) (cuts : Bytes) : Option Nat → D
  | none => d
  | some _ => d.crash cuts
/-- A round: it goes off, an Append, a crash. -/
theorem round_ok {c n : Nat} {d : D} {l : L} (h : Inv c n d.kept l) (cuts : Bytes) (hc : Dk.cutAt cuts 0 = c) (hn : d.n = n) (hst : d.st = []) (hf : Fresh d) (q : Option Nat) (b : Bytes) :
    ∃ l', Inv c n (crashD (append (stopD d q) l b).2.1 cuts q).kept l' ∧ (crashD (append (stopD d q) l b).2.1 cuts q).st = [] ∧ Fresh (crashD (append (stopD d q) l b).2.1 cuts q) ∧ (crashD (append (stopD d q) l b).2.1 cuts q).n = n ∧
      ((append (stopD d q) l b).1 = 0 ∧ rds l' = rds l ++ [b] ∨ ((append (stopD d q) l b).1 ≠ 0 ∧ (append (stopD d q) l b).1 ≠ 21 ∧ rds l' = rds l) ∨ ((append (stopD d q) l b).1 = 21 ∧ (rds l' = rds l ∨ rds l' = rds l ++ [b]))) := by
  have hc32 : c ≤ 32 := by rw [← hc]; exact cut_le cuts 0
  obtain ⟨d1, hd1⟩ : ∃ d1, d1 = stopD d q := ⟨_, rfl⟩
  have k1 : d1.kept = d.kept ∧ d1.n = n ∧ d1.st = [] := by
    rw [hd1]
    cases q with
    | none => exact ⟨rfl, hn, hst⟩
    | some s =>
      show (d.stop (s : Int)).kept = d.kept ∧ (d.stop (s : Int)).n = n ∧ (d.stop (s : Int)).st = []
      unfold Dk.D.stop
      by_cases hl : d.left = 0
      · simp only [hl, if_true]
        exact ⟨trivial, hn, hst⟩
      · simp only [hl, if_false]
        exact ⟨trivial, hn, hst⟩
  have hi1 : Inv c n d1.kept l := by rw [k1.1]; exact h
  have hfc : ∀ d2 : D, d2.n = n → (q = none → d2.st = [] ∧ Fresh d2) → (crashD d2 cuts q).st = [] ∧ Fresh (crashD d2 cuts q) ∧ (crashD d2 cuts q).n = n := by
    intro d2 hn2 hq
    cases q with
    | none => exact ⟨(hq rfl).1, (hq rfl).2, hn2⟩
    | some s => exact ⟨rfl, ⟨by show (-1 : Int) < 0; decide, rfl⟩, hn2⟩
  have hkept : ∀ d2 : D, d2.st = [] → (crashD d2 cuts q).kept = d2.kept := by
    intro d2 hs
    cases q with
    | none => rfl
    | some s => exact crash_nil hs cuts
  have hf1 : q = none → Fresh d1 := by
    intro hq
    subst hq
    rw [hd1]
    exact hf
  rw [← hd1]
  rcases hi1.append hc32 k1.2.1 k1.2.2 b with ⟨e, he, hr⟩ | hk
  · rw [hr]
    have h3 := hfc d1 k1.2.1 (fun hq => ⟨k1.2.2, hf1 hq⟩)
    exact ⟨l, by rw [hkept d1 k1.2.2]; exact hi1, h3.1, h3.2.1, h3.2.2, .inr (.inl ⟨by dsimp only; omega, by dsimp only; omega, rfl⟩)⟩
  · obtain ⟨r, hr⟩ : ∃ r, r = append d1 l b := ⟨_, rfl⟩
    rw [← hr] at hk ⊢
    rcases hk.kinds with h0 | h5 | h21
    · obtain ⟨g1, g2, g3, g4⟩ := hk.done h0
      have h3 := hfc r.2.1 g3 (fun hq => ⟨g2, (hk.fresh (hf1 hq)).2⟩)
      exact ⟨r.2.2, by rw [hkept _ g2]; exact g1, h3.1, h3.2.1, h3.2.2, .inl ⟨h0, g4⟩⟩
    · obtain ⟨g1, g2⟩ := hk.full h5
      have h3 := hfc r.2.1 (by rw [g1]; exact k1.2.1) (fun hq => ⟨by rw [g1]; exact k1.2.2, by rw [g1]; exact hf1 hq⟩)
      exact ⟨l, by rw [g1, hkept _ k1.2.2]; exact hi1, h3.1, h3.2.1, h3.2.2, .inr (.inl ⟨by rw [h5]; decide, by rw [h5]; decide, rfl⟩)⟩
    · obtain ⟨_, g2, _, g4⟩ := hk.bad h21
      have hq : ∃ s, q = some s := by
        cases q with
        | none => exact absurd h21 (hk.fresh (hf1 rfl)).1
        | some s => exact ⟨s, rfl⟩
      obtain ⟨s, rfl⟩ := hq
      obtain ⟨l', g5, g6⟩ := g4 cuts hc
      exact ⟨l', g5, rfl, ⟨by show (-1 : Int) < 0; decide, rfl⟩, g2, .inr (.inr ⟨h21, g6⟩)⟩
end Wl
end Go.Proofs.YtkmljbbnpjlehaaDoor
