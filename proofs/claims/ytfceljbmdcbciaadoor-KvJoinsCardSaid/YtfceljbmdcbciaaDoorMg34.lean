/- What each of the calls that keep makes does to the disk. Conditions: the list of calls lies as keep has laid it. keep of package wal: the calls of the disk, one behind the other, up to the first one that fails. -/
import Derived.Test.YtfceljbmdcbciaaDoorMg33
namespace Go.Proofs.YtfceljbmdcbciaaDoor
set_option maxRecDepth 8000
open Go.RowKit

/-- Where keep stands ahead of its loop. -/
structure KAt (F : Nat → Prop) (w wK : World) (m : Lm) (a frm n b o at0 base gl q gk gg cap g : Nat) (A : Option Addr) (fr : List UInt8) (vs : List Value) : Prop where
  below : Below w.heap.size w wK
  cl : CList base gl at0 b (o + 32 * frm) (n - 32 * frm) q wK (some ⟨gg, 0, none⟩) (q + 1 + 2) cap vs [syncV m.P, headV gk (gk + 1), syncV m.P]
  lb : Boxed wK gl 29 (.pointer (some ⟨m.L, 0, none⟩))
  lk : Boxed wK gk 29 (.pointer (some ⟨m.L, 0, none⟩))
  hd : wK.heap[gk + 1]? = some (.cells #[.int .i64 ((g + 1 : Nat) : Int), .int .i64 (a : Int), .int .i64 (n : Int)] 82 (0, 0))
  lc : wK.cell? ⟨m.L, 0, none⟩ = some (.pointer (some ⟨m.P, 0, none⟩))
  hs : Hs wK
  F0 : ∀ x, F x → x < w.heap.size
  nL : ¬ F m.L
  nH : ¬ F 0
  gl_ : w.heap.size ≤ gl
  gk_ : w.heap.size ≤ gk
  base_ : gl < base
  fr_ : BCells w w.heap.size A fr
  n_ : fr.length = n
  A_ : 0 < n → A = some ⟨b, o, none⟩
  AF : ∀ x ∈ blkOf A, ¬ F x
  f_ : 32 * frm ≤ n
  n2 : n ≤ 8191
  q_ : q = (n - 32 * frm + 31) / 32
  g_ : g < 262143
  a_ : a ≤ 1
theorem KAt.nF {F : Nat → Prop} {w wK : World} {m : Lm} {a frm n b o at0 base gl q gk gg cap g : Nat} {A : Option Addr} {fr : List UInt8} {vs : List Value} (h : KAt F w wK m a frm n b o at0 base gl q gk gg cap g A fr vs) {x : Nat} (hx : w.heap.size ≤ x) : ¬ F x := fun hf => by
  have := h.F0 x hf
  omega
/-- The calls that keep makes, one by one. -/
def KCall (_P q at0 a n g : Nat) (fb : List UInt8) (k : Nat) : Wl.C :=
  if k < q then .wr (at0 + k) (Wl.chunk fb k) else if k = q + 1 then .wr ((g + 1) % 2) (Wl.head (g + 1) a n) else .sync
theorem chunk_sub (fr : List UInt8) (frm k : Nat) : Wl.chunk (fr.drop (32 * frm)) k = (fr.drop (32 * frm + 32 * k)).take 32 := by
  unfold Wl.chunk
  rw [List.drop_drop]
theorem hs_out {F : Nat → Prop} {w w' : World} (h : Hs w) (ho : OutP F w w') (hn : ¬ F 0) : Hs w' := fun j v hv => by
  have h1 := h j v hv
  exact out_cell ho h1 hn
theorem KAt.call {F : Nat → Prop} {w wK : World} {m : Lm} {a frm n b o at0 base gl q gk gg cap g : Nat} {A : Option Addr} {fr : List UInt8} {vs : List Value} (h : KAt F w wK m a frm n b o at0 base gl q gk gg cap g A fr vs)
    {k : Nat} (hk : k < q + 3) {wr : World} {d : Dk.D} (hd : HD (Or F wK.heap.size wr.heap.size) wr m.P d) (ho : OutP F wK wr) (hst : d.st.length ≤ 1048575) :
    (∃ bi bb, wr.cell? ⟨gg, k, none⟩ = some (cloV gl bi bb) ∧ Calls Tryd.prog 115 #[.pointer (some ⟨gl, 0, none⟩), .pointer (some ⟨bi, 0, none⟩), .pointer (some ⟨bb, 0, none⟩)] wr (IntHD (Or F wK.heap.size wr.heap.size) wr m.P (Wl.callE d (KCall m.P q at0 a n g (fr.drop (32 * frm)) k)) (Wl.call d (KCall m.P q at0 a n g (fr.drop (32 * frm)) k)))) ∨
    (wr.cell? ⟨gg, k, none⟩ = some (syncV m.P) ∧ Calls Tryd.prog 95 #[.pointer (some ⟨m.P, 0, none⟩)] wr (IntHD (Or F wK.heap.size wr.heap.size) wr m.P (Wl.callE d (KCall m.P q at0 a n g (fr.drop (32 * frm)) k)) (Wl.call d (KCall m.P q at0 a n g (fr.drop (32 * frm)) k)))) ∨
    (wr.cell? ⟨gg, k, none⟩ = some (headV gk (gk + 1)) ∧ Calls Tryd.prog 96 #[.pointer (some ⟨gk, 0, none⟩), .pointer (some ⟨gk + 1, 0, none⟩)] wr (IntHD (Or F wK.heap.size wr.heap.size) wr m.P (Wl.callE d (KCall m.P q at0 a n g (fr.drop (32 * frm)) k)) (Wl.call d (KCall m.P q at0 a n g (fr.drop (32 * frm)) k)))) := by
  have hbz := h.below.size
  -- blocks that were there ahead of the loop, and are none of the disk's
  have hG : ∀ {x : Nat}, x < wK.heap.size → ¬ F x → ¬ Or F wK.heap.size wr.heap.size x := fun hx hn hor => hor.elim hn (fun h => by omega)
  have hcell : ∀ v, (vs ++ [syncV m.P, headV gk (gk + 1), syncV m.P])[k]? = some v → wr.cell? ⟨gg, k, none⟩ = some v := fun v hv => by
    have h1 := h.cl.row.cells (g := gg) rfl k v hv
    rw [Addr.add_mid, Nat.zero_add] at h1
    refine out_cell ho h1 (h.nF ?_)
    have := (h.cl.blk gg (by simp [blkOf])).1
    have := h.base_
    have := h.gl_
    omega
  have hLlt := World.block_lt_of_cell? _ _ h.lc
  have hlb := (Array.getElem?_eq_some_iff.1 h.lb).1
  have hlk := (Array.getElem?_eq_some_iff.1 h.lk).1
  have hhd := (Array.getElem?_eq_some_iff.1 h.hd).1
  have c1 := out_cell ho (Boxed.cell h.lb) (h.nF h.gl_)
  have c2 := out_cell ho (Boxed.cell h.lk) (h.nF h.gk_)
  have c3 := out_cell ho h.lc h.nL
  by_cases hkq : k < q
  · left
    obtain ⟨v, hv, bi, bb, rfl, e2, e3, e4, e5, e6, e7⟩ := h.cl.el k hkq
    have hbi := (Array.getElem?_eq_some_iff.1 e2).1
    have hbb := (Array.getElem?_eq_some_iff.1 e3).1
    have hb1 := h.base_
    have hb2 := h.gl_
    have nbi : ¬ F bi := h.nF (by omega)
    have nbb : ¬ F bb := h.nF (by omega)
    have hq := h.q_
    have hf := h.f_
    have hn := h.n_
    have hA := h.A_ (by omega)
    have hlen : (Wl.chunk (fr.drop (32 * frm)) k).length = min 32 (n - 32 * frm - 32 * k) := by
      rw [chunk_sub, List.length_take, List.length_drop, hn]
      omega
    have hsub := sub_cells (a := 32 * frm + 32 * k) (m := 32) (hA ▸ h.fr_)
    rw [← chunk_sub] at hsub
    obtain ⟨b', o', e, hblt, _⟩ := h.fr_ (by omega)
    rw [hA] at e
    injection e with e
    injection e with e _ _
    subst e
    have hnb : ¬ F b := h.AF b (by rw [hA]; simp [blkOf])
    have hBr : BIn wr (some ⟨b, o + 32 * frm + 32 * k, none⟩) (Wl.chunk (fr.drop (32 * frm)) k) := fun h0 => by
      obtain ⟨b2, o2, e2, hlt2, hc2⟩ := hsub h0
      rw [← Nat.add_assoc] at e2
      refine ⟨b2, o2, e2, ?_, fun j hj => ?_⟩
      · have := ho.size; omega
      · injection e2 with e2
        injection e2 with e2 _ _
        subst e2
        exact out_cell ho ((h.below.cell (p := ⟨b, o2 + j, none⟩) hblt).trans (hc2 j hj)) hnb
    refine ⟨bi, bb, hcell _ (by rw [List.getElem?_append_left (by rw [h.cl.len]; exact hkq)]; exact hv), ?_⟩
    have hKC : KCall m.P q at0 a n g (fr.drop (32 * frm)) k = .wr (at0 + k) (Wl.chunk (fr.drop (32 * frm)) k) := by unfold KCall; rw [if_pos hkq]
    rw [hKC]
    exact clo_write _ wr m.P m.L gl bi bb (at0 + k) (min 32 (n - 32 * frm - 32 * k)) (min 32 (n - 32 * frm - 32 * k)) _ _ d hd hst c1 c3 (out_cell ho (Boxed.cell e2) nbi) (out_cell ho (Boxed.cell e3) nbb) (hG hlb (h.nF h.gl_)) (hG hLlt h.nL) (hG hbi nbi) (hG hbb nbb) hlen (by omega) hBr (fun _ ad e => by
      injection e with e
      subst e
      exact hG (show b < wK.heap.size by omega) hnb)
  · have hlenv := h.cl.len
    right
    by_cases hk1 : k = q + 1
    · right
      subst hk1
      have hKC : KCall m.P q at0 a n g (fr.drop (32 * frm)) (q + 1) = .wr ((g + 1) % 2) (Wl.head (g + 1) a n) := by unfold KCall; rw [if_neg (by omega), if_pos rfl]
      rw [hKC]
      refine ⟨hcell _ (by rw [List.getElem?_append_right (by omega), hlenv, show q + 1 - q = 1 by omega]; rfl), ?_⟩
      have nh : ¬ F (gk + 1) := h.nF (by have := h.gk_; omega)
      exact clo_head _ wr m.P m.L gk (gk + 1) (g + 1) a n d (hs_out h.hs ho h.nH) hd (fun x hx => by
        rcases hx with hx | hx
        · have := h.F0 x hx; have := ho.size; omega
        · exact hx.2) hst (by have := h.g_; omega) h.a_ (by have := h.n2; omega) c2 c3 ((ho.block _ hhd nh).trans h.hd) (hG hlk (h.nF h.gk_)) (hG hLlt h.nL) (hG hhd nh)
    · left
      have hKC : KCall m.P q at0 a n g (fr.drop (32 * frm)) k = .sync := by unfold KCall; rw [if_neg hkq, if_neg hk1]
      rw [hKC]
      have : k = q ∨ k = q + 2 := by omega
      refine ⟨hcell _ ?_, sync_hd hd (by omega)⟩
      rw [List.getElem?_append_right (by omega), hlenv]
      rcases this with rfl | rfl
      · rw [Nat.sub_self]; rfl
      · rw [show q + 2 - q = 2 by omega]; rfl
theorem call_st (d : Dk.D) (c : Wl.C) : (Wl.call d c).st.length ≤ d.st.length + 1 := by
  cases c with
  | wr i b =>
    show (d.write i b).st.length ≤ _
    unfold Dk.D.write
    split
    · omega
    · split
      · omega
      · split
        · rw [Dk.asked_st]; omega
        · simp
  | sync =>
    show d.sync.st.length ≤ _
    unfold Dk.D.sync
    split
    · rw [Dk.asked_st]; omega
    · simp
theorem runC_step {d dk : Dk.D} {cs : List Wl.C} {k : Nat} {c : Wl.C} (h : Wl.runC d (cs.take k) = (dk, true)) (hc : cs[k]? = some c) :
    (Wl.callE dk c = 0 → Wl.runC d (cs.take (k + 1)) = (Wl.call dk c, true)) ∧ (Wl.callE dk c ≠ 0 → Wl.runC d cs = (Wl.call dk c, false)) := by
  have hk := (List.getElem?_eq_some_iff.1 hc).1
  have hck := (List.getElem?_eq_some_iff.1 hc).2
  constructor
  · intro he
    rw [List.take_succ_eq_append_getElem hk, Wl.runC_app, h, hck]
    simp [Wl.runC, he]
  · intro he
    have e : cs = cs.take k ++ c :: cs.drop (k + 1) := by rw [← hck, List.getElem_cons_drop, List.take_append_drop]
    rw [e, Wl.runC_app, h]
    simp [Wl.runC, he]
/-- The list of calls, as the plain functions have it. -/
theorem keepC_len (n a frm g : Nat) (fr : List UInt8) : (Wl.keepC n a frm fr g).length = (fr.length - 32 * frm + 31) / 32 + 3 := by
  unfold Wl.keepC Wl.writesC Wl.count
  rw [List.length_append, List.length_map, List.length_range, List.length_drop]
  rfl
theorem keepC_get {dn a frm g n q at0 P k : Nat} {fr : List UInt8} (hn : fr.length = n) (hq : q = (n - 32 * frm + 31) / 32) (hat : at0 = Wl.start dn a + frm) (hk : k < q + 3) : (Wl.keepC dn a frm fr (g + 1))[k]? = some (KCall P q at0 a n g (fr.drop (32 * frm)) k) := by
  unfold Wl.keepC Wl.writesC KCall
  have hc : Wl.count (fr.drop (32 * frm)) = q := by unfold Wl.count; rw [List.length_drop, hn, hq]
  have hl : (List.map (fun k => Wl.C.wr (Wl.start dn a + frm + k) (Wl.chunk (fr.drop (32 * frm)) k)) (List.range q)).length = q := by simp
  rw [hc]
  by_cases hkq : k < q
  · rw [if_pos hkq, List.getElem?_append_left (by rw [hl]; exact hkq), List.getElem?_map, List.getElem?_range hkq, hat]
    rfl
  · rw [if_neg hkq, List.getElem?_append_right (by rw [hl]; omega), hl, hn]
    have : k = q ∨ k = q + 1 ∨ k = q + 2 := by omega
    rcases this with rfl | rfl | rfl
    · rw [if_neg (by omega), Nat.sub_self]; rfl
    · rw [if_pos rfl, show q + 1 - q = 1 by omega]; rfl
    · rw [if_neg (by omega), show q + 2 - q = 2 by omega]; rfl
end Go.Proofs.YtfceljbmdcbciaaDoor
namespace Go.Proofs.YtfceljbmdcbciaaDoor
set_option maxRecDepth 8000
open Go.RowKit

def KeepPost (F : Nat → Prop) (w : World) (m : Lm) (A : Option Addr) (r : Int × Dk.D × Wl.L) (e : Ending) (w' : World) : Prop :=
  e = .returned (.int .i64 r.1) ∧ HD (Or F w.heap.size w'.heap.size) w' m.P r.2.1 ∧ OutP (fun x => F x ∨ x = m.L) w w' ∧ ∃ m' : Lm, m'.L = m.L ∧ m'.P = m.P ∧ LAt w' m' r.2.2 ∧ (m'.A = m.A ∨ m'.A = A)
theorem keep_same {F : Nat → Prop} {w w' : World} {m : Lm} {A : Option Addr} {l : Wl.L} {d : Dk.D} (hd : HD F w m.P d) (h : LAt w m l) (hb : Below w.heap.size w w') (x : Int) : KeepPost F w m A (x, d, l) (.returned (.int .i64 x)) w' :=
  ⟨rfl, (hd.keep hb).mono (fun _ hx => .inl hx), (OutP.of (F := fun x => F x ∨ x = m.L) hb), m, rfl, rfl, h.keep hb, .inl rfl⟩

theorem or_or {F : Nat → Prop} {s t u : Nat} (h1 : s ≤ t) (h2 : t ≤ u) (x : Nat) (h : Or (Or F s t) t u x) : Or F s u x := by
  rcases h with (h | ⟨h3, h4⟩) | ⟨h3, h4⟩
  · exact .inl h
  · exact .inr ⟨h3, by omega⟩
  · exact .inr ⟨by omega, h4⟩
/-- Behind a call of the disk the log is as it was, and the disk is told anew. -/
theorem keep_end {F : Nat → Prop} {w w7 w3 w4 : World} {m : Lm} {A : Option Addr} {l : Wl.L} {d' : Dk.D} (_hLlt : m.L < w.heap.size) (_hF : ∀ x, F x → x < w.heap.size) (hm : ∀ x ∈ m.F, ¬ F x) (_hAF : ∀ x ∈ blkOf A, ¬ F x) (_hAl : ∀ x ∈ blkOf A, x < w.heap.size) (hb7 : Below w.heap.size w w7) (ho3 : OutP F w7 w3)
    (hhd4 : HD (Or (Or F w7.heap.size w3.heap.size) w3.heap.size w4.heap.size) w4 m.P d') (hout4 : OutP (Or F w7.heap.size w3.heap.size) w3 w4) (hl7 : LAt w7 m l) (x : Int) : KeepPost F w m A (x, d', l) (.returned (.int .i64 x)) w4 := by
  have ho4 : OutP F w7 w4 := ho3.trans hout4 (fun _ _ h => h) (fun x hx h => h.elim id (fun h => by omega))
  have hs7 := hb7.size
  refine ⟨rfl, hhd4.mono (fun x hx => ?_), ?_, m, rfl, rfl, hl7.same (fun x hx => ho4.block x (hl7.lt x hx) (hm x hx)) ho4.size, .inl rfl⟩
  · rcases or_or ho3.size hout4.size x hx with h | ⟨h, h2⟩
    · exact .inl h
    · exact .inr ⟨by omega, h2⟩
  · exact (OutP.of hb7).trans (ho4.mono (fun x hx => (.inl hx : F x ∨ x = m.L))) (fun _ _ h => h) (fun _ _ h => h)
/-- A log's struct holds no byte. -/
theorem no_bytes {w : World} {L i : Nat} {p : Option Addr} {x y : Int} {A : Option Addr} {n c : Nat} {t : TypeId} {fr : Nat × Nat} {b : UInt8} (h : w.heap[L]? = some (.cells #[.pointer p, .int .i64 x, .int .i64 y, .slice A n c] t fr)) (hc : w.cell? ⟨L, i, none⟩ = some (B b)) : False := by
  rw [cell_of_row w L i _ _ _ h] at hc
  rcases i with _ | _ | _ | _ | i <;> simp [B] at hc
theorem out_step {F : Nat → Prop} {w7 wr w3 : World} (h : OutP F w7 wr) (h3 : OutP (Or F w7.heap.size wr.heap.size) wr w3) : OutP F w7 w3 := h.trans h3 (fun _ _ h => h) (fun x hx h => h.elim id (fun h => by omega))

set_option maxHeartbeats 6400000 in
theorem keep_any (F : Nat → Prop) (w : World) (m : Lm) (l : Wl.L) (d : Dk.D) (a frm n c b o : Nat) (A : Option Addr) (fr : List UInt8) (hH : Hs w) (hd : HD F w m.P d) (hF : ∀ x, F x → x < w.heap.size) (h : LAt w m l) (hm : ∀ x ∈ m.F, ¬ F x) (hst : d.st = []) (h4 : 4 ≤ d.n) (ha : a ≤ 1) (hg : l.gen ≤ 262143)
    (hfr : BCells w w.heap.size A fr) (hn : fr.length = n) (hA : 0 < n → A = some ⟨b, o, none⟩) (hA0 : A = none → c = 0) (hnc : n ≤ c) (hcm : c ≤ 9223372036854775807) (hAF : ∀ x ∈ blkOf A, ¬ F x) (hAl : ∀ x ∈ blkOf A, x < w.heap.size) (hf : 32 * frm ≤ n) (hn2 : n ≤ 16384) (hnH : ¬ F 0) :
    Calls Tryd.prog 70 #[.pointer (some ⟨m.L, 0, none⟩), .int .i64 (a : Int), .int .i64 (frm : Int), .slice A n c] w (KeepPost F w m A (Wl.keep d l a frm fr)) := by
  obtain ⟨c0, c1, c2, c3⟩ := h.c
  have hLlt : m.L < w.heap.size := h.lt _ ((mem_LF m _).2 (.inl rfl))
  have hn0 := hd.ok.n
  have hba : Below w.heap.size w (w.alloc (.cells #[.pointer (some ⟨m.L, 0, none⟩)] 29)) := (Below.refl _ _).alloc (Nat.le_refl _) _
  have HAB := Lib.hid (areaBytes_any (hd.keep hba).sd (by omega))
  have hul := Wl.areaBytes_lt hn0
  obtain ⟨ab, hab⟩ : ∃ ab, ab = Wl.areaBytes d.n := ⟨_, rfl⟩
  rw [← hab] at HAB hul
  obtain ⟨g, hg0⟩ : ∃ g, g = l.gen := ⟨_, rfl⟩
  rw [← hg0] at c1 hg
  have HD0 := Lib.hid hd
  have HLA := Lib.hid h
  have HHS := Lib.hid hH
  have HBA := Lib.hid hba
  clear hd h hH hba
  obtain ⟨R, hR⟩ : ∃ R, R = Wl.keep d l a frm fr := ⟨_, rfl⟩
  have HR := Lib.hid hR
  rw [← hR]
  have HHA := Lib.hid (And.intro hab hg0)
  clear hR hab hg0
  by_cases hfull : ab < n
  · have hfI : (ab : Int) < (n : Int) := by omega
    go_enter Tryd.func70, Tryd.ntmps70
    go_wp2_with fail
    refine HAB.out.mono ?_
    rintro _ _ ⟨rfl, rfl⟩
    go_wp2_with fail
    go_ret
    have hE : R = (5, d, l) := by rw [HR.out]; unfold Wl.keep; rw [if_pos (.inl (by rw [hn, ← HHA.out.1]; exact hfull))]
    rw [hE]
    exact keep_same HD0.out HLA.out HBA.out 5
  have hfI : ¬ (ab : Int) < (n : Int) := by omega
  have hn81 : n ≤ 8191 := by omega
  have hfD : decide ((ab : Int) < (n : Int)) = false := by simp; omega
  by_cases hlast : g = 262143
  · subst hlast
    go_enter Tryd.func70, Tryd.ntmps70
    go_wp2_with fail
    refine HAB.out.mono ?_
    rintro _ _ ⟨rfl, rfl⟩
    go_wp2_with fail
    go_ret
    have hE : R = (5, d, l) := by rw [HR.out]; unfold Wl.keep; rw [if_pos (.inr HHA.out.2.symm)]
    rw [hE]
    exact keep_same HD0.out HLA.out HBA.out 5
  have hlI : ((g : Int) == 262143) = false := by simp; omega
  have HKE : Hid (R = if (Wl.runC d (Wl.keepC d.n a frm fr (g + 1))).2 then (0, (Wl.runC d (Wl.keepC d.n a frm fr (g + 1))).1, ⟨g + 1, a, fr⟩) else (21, (Wl.runC d (Wl.keepC d.n a frm fr (g + 1))).1.drop, l)) := Lib.hid (by
    rw [HR.out]
    unfold Wl.keep
    rw [if_neg (by rintro (h1 | h1); · rw [hn, ← HHA.out.1] at h1; exact hfull h1
                   · rw [← HHA.out.2] at h1; exact hlast h1), ← HHA.out.2])
  have hgw : IntKind.i64.wrap ((g : Int) + 1) = (g : Int) + 1 := IntWalk.i64_in _ (by omega)
  go_enter Tryd.func70, Tryd.ntmps70
  go_wp2_with fail
  refine HAB.out.mono ?_
  rintro _ _ ⟨rfl, rfl⟩
  go_upto_region 4 with (fail)
  obtain ⟨w2, hw2⟩ : ∃ w2, w2 = (w.alloc (.cells #[.pointer (some ⟨m.L, 0, none⟩)] 29)).alloc (.cells #[.int .i64 ((g : Int) + 1), .int .i64 (a : Int), .int .i64 (n : Int)] 82) := ⟨_, rfl⟩
  obtain ⟨gk, hgk⟩ : ∃ gk, gk = w.heap.size := ⟨_, rfl⟩
  have hb2 : Below w.heap.size w w2 := by rw [hw2]; exact ((Below.refl _ _).alloc (Nat.le_refl _) _).alloc (by simp) _
  have hk2 : Boxed w2 gk 29 (.pointer (some ⟨m.L, 0, none⟩)) := by rw [hw2, hgk]; exact (Below.heap_alloc _ _ _ (by simp)).trans (heap_alloc_new w _)
  have hh2 : w2.heap[gk + 1]? = some (.cells #[.int .i64 ((g : Int) + 1), .int .i64 (a : Int), .int .i64 (n : Int)] 82 (0, 0)) := by
    rw [hw2, hgk]
    have := heap_alloc_new (w.alloc (.cells #[.pointer (some ⟨m.L, 0, none⟩)] 29)) (.cells #[.int .i64 ((g : Int) + 1), .int .i64 (a : Int), .int .i64 (n : Int)] 82)
    rwa [World.size_alloc] at this
  rw [← hw2, ← hgk]
  have HGK : Hid (gk = w.heap.size ∧ w2.heap.size = gk + 2) := Lib.hid ⟨hgk, by rw [hw2, hgk]; simp⟩
  clear hw2 hgk
  obtain ⟨at0, hat0⟩ : ∃ at0, at0 = Wl.start d.n a + frm := ⟨_, rfl⟩
  obtain ⟨nn, hnn⟩ : ∃ nn, nn = n - 32 * frm := ⟨_, rfl⟩
  obtain ⟨q, hq⟩ : ∃ q, q = (nn + 31) / 32 := ⟨_, rfl⟩
  have HWR : Hid (∀ w', Below w2.heap.size w2 w' → Calls Tryd.prog 94 #[.pointer (some ⟨m.L, 0, none⟩), .int .i64 (a : Int), .int .i64 (frm : Int), .slice A n c] w' (WritesPost w' m.L at0 b (o + 32 * frm) nn)) := Lib.hid (fun w' hb' => by
    have hbw := hb2.trans (hb'.mono hb2.size)
    rw [hat0, hnn]
    exact writes_any w' m l d a frm n c b o A (HLA.out.keep hbw) (HD0.out.keep hbw).sd (by omega) ha hf hA hA0 hnc hcm hn2)
  have HC := Lib.hid (fun (w' : World) (hb' : Below w2.heap.size w2 w') => And.intro (Boxed.cell (block_keep hb' hk2)) ((HLA.out.keep (hb2.trans (hb'.mono hb2.size))).c.1))
  have HK2 := Lib.hid hk2
  have HH2 := Lib.hid hh2
  have HB2 := Lib.hid hb2
  have HAT := Lib.hid (And.intro hat0 (And.intro hnn hq))
  have hqn : q ≤ 16384 := by omega
  have hdr : Below w2.heap.size w2 w2.drew := drewN_below w2 1
  have hdl : Below w2.heap.size w2 (w2.alloc (.cells #[syncV m.P] 68)).drew := ((Below.refl _ _).alloc (Nat.le_refl _) _).drew
  have hnews2 : (w2.alloc (.cells #[syncV m.P] 68)).drew.heap[w2.heap.size]? = some (.cells #[syncV m.P] 68 (0, 0)) := heap_alloc_new w2 _
  have hq31 : (nn + 31) / 32 ≤ 16777216 := by rw [← hq]; omega
  have hmf : ∀ (fn : Fn) (first cap : Array Value) (w : World), (Instr.makeFunc fn first cap).run Tryd.prog w = .ok (.func fn first cap) w := fun _ _ _ _ => rfl
  clear hat0 hk2 hh2 hb2 c0 c1 c2 c3 hnn hq HAB
  go_cut [10] (fun v wx => CutR w2 m.L m.P at0 b (o + 32 * frm) nn v wx)
  case first =>
    go_region_held3 (fun wx => wx.cell? ⟨gk, 0, none⟩ = some (.pointer (some ⟨m.L, 0, none⟩)) ∧ wx.cell? ⟨m.L, 0, none⟩ = some (.pointer (some ⟨m.P, 0, none⟩)))
      (first
        | exact HC.out _ hb9
        | exact HC.out _ hbA
        | exact HC.out _ hb5
        | exact HC.out _ hdl
        | exact HC.out _ hdr)
      (first
        | (go_at_call 94; refine (HWR.out _ hdr).mono ?_; rintro e w5 ⟨A5, c5, vs5, base5, gl5, rfl, hcr5, hlb5, hg5, hgb5, hbs5, hb5c⟩; have hb5 : Below w2.heap.size w2 w5 := hdr.trans (hb5c.mono hdr.size); have hbA : Below w2.heap.size w2 (w5.alloc (.cells #[syncV m.P] 68)) := hb5.alloc hb5.size _; have hbd : Below w5.heap.size w5 (w5.alloc (.cells #[syncV m.P] 68)) := (Below.refl _ _).alloc (Nat.le_refl _) _)
        | (go_at_call 94; refine (HWR.out _ hdl).mono ?_; rintro e w5 ⟨A5, c5, vs5, base5, gl5, rfl, hcr5, hlb5, hg5, hgb5, hbs5, hb5c⟩; have hb5 : Below w2.heap.size w2 w5 := hdl.trans (hb5c.mono hdl.size))
        | (refine kstep_push (.tmp 41) (.tmp 47) base5 w5.heap.size (.slice A5 ((nn + 31) / 32) c5) (syncV m.P) ((nn + 31) / 32) vs5 rfl rfl rfl rfl (hcr5.next hbd).row (heap_alloc_new w5 (.cells #[syncV m.P] 68)) rfl hq31 (Nat.le_trans hbs5 hbd.size) ?_; intro gg cap w9 hown9 hgrow9 hat9; have hcut := list_end (P := m.P) hdr hcr5 hlb5 hg5 hgb5 hb5c hbd hown9 hgrow9 hat9; have hb9 := hcut.below)
        | (refine kstep_push (.tmp 41) (.tmp 47) base5 w2.heap.size (.slice A5 ((nn + 31) / 32) c5) (syncV m.P) ((nn + 31) / 32) vs5 rfl rfl rfl rfl hcr5.row (block_keep hb5c hnews2) rfl hq31 hbs5 ?_; intro gg cap w9 hown9 hgrow9 hat9; have hcut := list_end (P := m.P) hdl hcr5 hlb5 hg5 hgb5 hb5c (Below.refl _ _) hown9 hgrow9 hat9; have hb9 := hcut.below))
    all_goals
      go_wp2_with fail
      go_meet
      exact hcut
  case rest =>
    obtain ⟨A3, c3, vs, base, gl, rfl, hcl, hlb, hglb, hglb2, hbc⟩ := hcut
    rw [← HAT.out.2.2] at hcl ⊢
    obtain ⟨p0, p1⟩ := HC.out _ hbc
    have hnews : (wc.alloc (.cells #[headV gk (gk + 1), syncV m.P] 68)).heap[wc.heap.size]? = some (.cells #[headV gk (gk + 1), syncV m.P] 68 (0, 0)) := heap_alloc_new wc _
    have hbd : Below wc.heap.size wc (wc.alloc (.cells #[headV gk (gk + 1), syncV m.P] 68)) := (Below.refl _ _).alloc (Nat.le_refl _) _
    have hq32 : q + 1 ≤ 16777216 := by omega
    have hbase : base ≤ wc.heap.size := by
      rcases hcl.row.2 with ⟨_, h0⟩ | ⟨gg, cp, cur, _, hb0, hgg, _⟩
      · omega
      · have := (Array.getElem?_eq_some_iff.1 hgg).1
        omega
    have HCL := Lib.hid hcl
    have HLB := Lib.hid hlb
    have HGL := Lib.hid (And.intro hglb (And.intro hglb2 hbc))
    clear hcl hlb hglb hglb2 hbc HWR hdr hdl hnews2
    go_wp2_with (at_builtin; refine list_push2 ?hw1 (.tmp 49) (.tmp 56) base wc.heap.size (.slice A3 (q + 1) c3) (headV gk (gk + 1)) (syncV m.P) (q + 1) (vs ++ [syncV m.P]) rfl rfl rfl (HCL.out.next hbd).row hnews rfl rfl hq32 (Nat.le_trans hbase hbd.size) ?_; rotate_right; intro gg cap w7 hown7 hgrow7 hat7)
    have hcl7 := HCL.out.more hbd hown7 hgrow7 hat7
    have hown3 := HCL.out.own
    have hkeep7 : ∀ x, x < base → x < wc.heap.size → w7.heap[x]? = wc.heap[x]? := fun x hx hx2 => by
      rw [hgrow7.block x (Nat.lt_of_lt_of_le hx2 hbd.size) (fun e => by have := (hown3 x e.symm).1; omega)]
      exact hbd.block x hx2
    have hb27 : Below w2.heap.size w2 w7 := (HGL.out.2.2.trans (hbd.mono HGL.out.2.2.size)).grown hgrow7 (by have := HGL.out.2.2.size; have := hbd.size; omega) (fun k hk => by have := (hown3 k hk).1; have := HGL.out; omega)
    have hbw7 : Below w.heap.size w w7 := HB2.out.trans (hb27.mono HB2.out.size)
    have hKA : KAt F w w7 m a frm n b o at0 base gl q gk gg cap g A fr vs := {
      below := hbw7
      cl := by
        have := HAT.out.2.1
        rw [← this]
        exact hcl7
      lb := (hkeep7 gl HGL.out.2.1 (Array.getElem?_eq_some_iff.1 HLB.out).1).trans HLB.out
      lk := block_keep hb27 HK2.out
      hd := by
        rw [show ((g + 1 : Nat) : Int) = (g : Int) + 1 by omega]
        exact block_keep hb27 HH2.out
      lc := (HC.out _ hb27).2
      hs := HHS.out.next hbw7
      F0 := hF
      nL := hm _ ((mem_LF m _).2 (.inl rfl))
      nH := hnH
      gl_ := by have := HGL.out.1; have := HB2.out.size; omega
      gk_ := by have := HGK.out.1; omega
      base_ := HGL.out.2.1
      fr_ := hfr
      n_ := hn
      A_ := hA
      AF := hAF
      f_ := hf
      n2 := hn81
      q_ := by rw [HAT.out.2.2, HAT.out.2.1]
      g_ := by omega
      a_ := ha }
    have hhd7 : HD F w7 m.P d := HD0.out.keep hbw7
    have hla7 := HLA.out.keep hbw7
    have HKA := Lib.hid hKA
    have HD7 := Lib.hid hhd7
    have HL7 := Lib.hid hla7
    have HB7 := Lib.hid hbw7
    have hlen3 : ((q + 1 + 2 : Nat) : Int) = (q : Int) + 3 := by omega
    clear hKA hhd7 hla7 hcl7 hown3 hkeep7 hb27 hbw7 hown7 hgrow7 hat7 hnews hbd hbase HCL HLB HGL HC HK2 HH2 HB2 HD0 HLA HHS p0 p1 hmf
    obtain ⟨cs, hcs⟩ : ∃ cs, cs = Wl.keepC d.n a frm fr (g + 1) := ⟨_, rfl⟩
    rw [← hcs] at HKE
    have HCS : Hid (∀ k, k < q + 3 → cs[k]? = some (KCall m.P q at0 a n g (fr.drop (32 * frm)) k)) := Lib.hid (fun k hk => by
      rw [hcs]
      exact keepC_get hn (by rw [HAT.out.2.2, HAT.out.2.1]) HAT.out.1 hk)
    have HCN : Hid (cs.length = q + 3) := Lib.hid (by rw [hcs, keepC_len, hn, HAT.out.2.2, HAT.out.2.1])
    clear hcs
    go_loopw [60] (fun iv wr => ∃ (k : Nat) (dk : Dk.D), k ≤ q + 3 ∧ iv = .int .i64 (k : Int) ∧ Wl.runC d (cs.take k) = (dk, true) ∧ HD (Or F w7.heap.size wr.heap.size) wr m.P dk ∧ OutP F w7 wr ∧ dk.st.length ≤ k) (fun iv _ => q + 3 - (intOf iv).toNat)
    case atStart => exact ⟨0, d, by omega, rfl, by rw [List.take_zero]; rfl, HD7.out.mono (fun _ hx => .inl hx), OutP.refl _ _, by rw [hst]; simp⟩
    case round =>
      obtain ⟨k, dk, hk, rfl, hrun, hhd, hout, hstk⟩ := hrel
      by_cases hlt : k < q + 3
      · have hkI : (k : Int) < (q : Int) + 1 + 2 := by omega
        have hk0 : (0 : Int) ≤ (k : Int) := by omega
        have hcall := HKA.out.call hlt hhd hout (by omega)
        have HST := Lib.hid (runC_step hrun (HCS.out k hlt))
        have HOUT := Lib.hid hout
        have HSTK := Lib.hid hstk
        obtain ⟨cc, hcc⟩ : ∃ cc, cc = KCall m.P q at0 a n g (fr.drop (32 * frm)) k := ⟨_, rfl⟩
        rw [← hcc] at hcall HST
        have HCST := Lib.hid (call_st dk cc)
        clear hcc hhd hout hrun hstk
        rcases hcall with ⟨bi, bb, hcell, hcall⟩ | ⟨hcell, hcall⟩ | ⟨hcell, hcall⟩
        · have HCA := Lib.hid hcall
          clear hcall
          unfold cloV at hcell
          go_wp2_with fail
          refine HCA.out.mono ?_
          rintro _ w3 ⟨rfl, hhd3, hout3⟩
          have ho3 := out_step HOUT.out hout3
          have hh3 := hhd3.mono (fun x hx => or_or HOUT.out.size hout3.size x hx)
          have p3 := out_cell ho3 (Boxed.cell HKA.out.lk) (HKA.out.nF HKA.out.gk_)
          have p4 := out_cell ho3 HKA.out.lc HKA.out.nL
          have HO3 := Lib.hid ho3
          have HH3 := Lib.hid hh3
          obtain ⟨x, hx⟩ : ∃ x, x = Wl.callE dk cc := ⟨_, rfl⟩
          rw [← hx] at HST ⊢
          clear hx hhd3 hout3 ho3 hh3 HCA hcell
          by_cases hx0 : x = 0
          · subst hx0
            have hrun3 := HST.out.1 rfl
            have HR3 := Lib.hid hrun3
            clear hrun3 HST p3 p4
            go_wp2_with fail
            go_roundw
            case rel => exact ⟨k + 1, _, by omega, by go_num, HR3.out, HH3.out, HO3.out, Nat.le_trans HCST.out (by have := HSTK.out; omega)⟩
            case measure => simp [intOf]; omega
          · have hxb : (x != 0) = true := by simpa using hx0
            have hfail := HST.out.2 hx0
            have HDR := Lib.hid (drop_hd HH3.out)
            have HRF : Hid (R = (21, (Wl.call dk cc).drop, l)) := Lib.hid (by rw [HKE.out, hfail]; rfl)
            clear hfail HST
            go_wp2_with fail
            refine HDR.out.mono ?_
            rintro _ w4 ⟨rfl, hhd4, hout4⟩
            have HEND : Hid (KeepPost F w m A R (.returned (.int .i64 21)) w4) := Lib.hid (by
              rw [HRF.out]
              exact keep_end hLlt hF hm hAF hAl HB7.out HO3.out hhd4 hout4 HL7.out 21)
            go_wp2_with fail
            go_ret
            exact HEND.out
        · have HCA := Lib.hid hcall
          clear hcall
          unfold syncV at hcell
          go_wp2_with fail
          refine HCA.out.mono ?_
          rintro _ w3 ⟨rfl, hhd3, hout3⟩
          have ho3 := out_step HOUT.out hout3
          have hh3 := hhd3.mono (fun x hx => or_or HOUT.out.size hout3.size x hx)
          have p3 := out_cell ho3 (Boxed.cell HKA.out.lk) (HKA.out.nF HKA.out.gk_)
          have p4 := out_cell ho3 HKA.out.lc HKA.out.nL
          have HO3 := Lib.hid ho3
          have HH3 := Lib.hid hh3
          obtain ⟨x, hx⟩ : ∃ x, x = Wl.callE dk cc := ⟨_, rfl⟩
          rw [← hx] at HST ⊢
          clear hx hhd3 hout3 ho3 hh3 HCA hcell
          by_cases hx0 : x = 0
          · subst hx0
            have hrun3 := HST.out.1 rfl
            have HR3 := Lib.hid hrun3
            clear hrun3 HST p3 p4
            go_wp2_with fail
            go_roundw
            case rel => exact ⟨k + 1, _, by omega, by go_num, HR3.out, HH3.out, HO3.out, Nat.le_trans HCST.out (by have := HSTK.out; omega)⟩
            case measure => simp [intOf]; omega
          · have hxb : (x != 0) = true := by simpa using hx0
            have hfail := HST.out.2 hx0
            have HDR := Lib.hid (drop_hd HH3.out)
            have HRF : Hid (R = (21, (Wl.call dk cc).drop, l)) := Lib.hid (by rw [HKE.out, hfail]; rfl)
            clear hfail HST
            go_wp2_with fail
            refine HDR.out.mono ?_
            rintro _ w4 ⟨rfl, hhd4, hout4⟩
            have HEND : Hid (KeepPost F w m A R (.returned (.int .i64 21)) w4) := Lib.hid (by
              rw [HRF.out]
              exact keep_end hLlt hF hm hAF hAl HB7.out HO3.out hhd4 hout4 HL7.out 21)
            go_wp2_with fail
            go_ret
            exact HEND.out
        · have HCA := Lib.hid hcall
          clear hcall
          unfold headV at hcell
          go_wp2_with fail
          refine HCA.out.mono ?_
          rintro _ w3 ⟨rfl, hhd3, hout3⟩
          have ho3 := out_step HOUT.out hout3
          have hh3 := hhd3.mono (fun x hx => or_or HOUT.out.size hout3.size x hx)
          have p3 := out_cell ho3 (Boxed.cell HKA.out.lk) (HKA.out.nF HKA.out.gk_)
          have p4 := out_cell ho3 HKA.out.lc HKA.out.nL
          have HO3 := Lib.hid ho3
          have HH3 := Lib.hid hh3
          obtain ⟨x, hx⟩ : ∃ x, x = Wl.callE dk cc := ⟨_, rfl⟩
          rw [← hx] at HST ⊢
          clear hx hhd3 hout3 ho3 hh3 HCA hcell
          by_cases hx0 : x = 0
          · subst hx0
            have hrun3 := HST.out.1 rfl
            have HR3 := Lib.hid hrun3
            clear hrun3 HST p3 p4
            go_wp2_with fail
            go_roundw
            case rel => exact ⟨k + 1, _, by omega, by go_num, HR3.out, HH3.out, HO3.out, Nat.le_trans HCST.out (by have := HSTK.out; omega)⟩
            case measure => simp [intOf]; omega
          · have hxb : (x != 0) = true := by simpa using hx0
            have hfail := HST.out.2 hx0
            have HDR := Lib.hid (drop_hd HH3.out)
            have HRF : Hid (R = (21, (Wl.call dk cc).drop, l)) := Lib.hid (by rw [HKE.out, hfail]; rfl)
            clear hfail HST
            go_wp2_with fail
            refine HDR.out.mono ?_
            rintro _ w4 ⟨rfl, hhd4, hout4⟩
            have HEND : Hid (KeepPost F w m A R (.returned (.int .i64 21)) w4) := Lib.hid (by
              rw [HRF.out]
              exact keep_end hLlt hF hm hAF hAl HB7.out HO3.out hhd4 hout4 HL7.out 21)
            go_wp2_with fail
            go_ret
            exact HEND.out
      · have hkI : ¬ (k : Int) < (q : Int) + 1 + 2 := by omega
        have hkq : k = q + 3 := by omega
        subst hkq
        have hrun2 : Wl.runC d cs = (dk, true) := by
          have := HCN.out
          rw [List.take_of_length_le (by omega)] at hrun
          exact hrun
        have HRF : Hid (R = (0, dk, ⟨g + 1, a, fr⟩)) := Lib.hid (by rw [HKE.out, hrun2]; rfl)
        have p3 := out_cell hout (Boxed.cell HKA.out.lk) (HKA.out.nF HKA.out.gk_)
        have p5 : wr.cell? ⟨gk + 1, 0, none⟩ = some (.int .i64 ((g : Int) + 1)) := by
          have h1 := cell_of_row w7 (gk + 1) 0 _ _ _ HKA.out.hd
          have h2 := out_cell hout h1 (HKA.out.nF (by have := HKA.out.gk_; omega))
          rw [h2]
          show some (Value.int .i64 ((g + 1 : Nat) : Int)) = _
          rw [show ((g + 1 : Nat) : Int) = (g : Int) + 1 by omega]
        have hlog := (hout.block m.L (World.block_lt_of_cell? _ _ HKA.out.lc) HKA.out.nL).trans HL7.out.log
        have q1 : wr.cell? ⟨m.L, 1, none⟩ = some (.int .i64 (l.gen : Int)) := cell_of_row wr m.L 1 _ _ _ hlog
        have q2 : wr.cell? ⟨m.L, 2, none⟩ = some (.int .i64 (l.area : Int)) := cell_of_row wr m.L 2 _ _ _ hlog
        have q3 : wr.cell? ⟨m.L, 3, none⟩ = some (.slice m.A l.fr.length m.c) := cell_of_row wr m.L 3 _ _ _ hlog
        have qf : ∀ j, wr.frozen? ⟨m.L, j, none⟩ = false := fun j => frozen_of_row wr m.L j _ _ hlog
        have HLOG := Lib.hid hlog
        have HHD := Lib.hid hhd
        have HOUT := Lib.hid hout
        clear hrun hrun2 hlog hhd hout
        go_wp2_with fail
        go_region
        have hS : ((((wr.setCell ⟨m.L, 1, none⟩ (.int .i64 ((g : Int) + 1))).setCell ⟨m.L, 2, none⟩ (.int .i64 (a : Int))).setCell ⟨m.L, 3, none⟩ (.slice A n c)).drew).heap[m.L]? = some (.cells #[.pointer (some ⟨m.P, 0, none⟩), .int .i64 ((g : Int) + 1), .int .i64 (a : Int), .slice A n c] 88 (0, 0)) :=
          setP_heap (setP_heap (setP_heap HLOG.out 1 (.int .i64 ((g : Int) + 1))) 2 (.int .i64 (a : Int))) 3 (.slice A n c)
        have hOS : OutP (fun x => x = m.L) wr ((((wr.setCell ⟨m.L, 1, none⟩ (.int .i64 ((g : Int) + 1))).setCell ⟨m.L, 2, none⟩ (.int .i64 (a : Int))).setCell ⟨m.L, 3, none⟩ (.slice A n c)).drew) := by
          have h1 := ((out_set (w := wr) (F := fun x => x = m.L) (P := m.L) (j := 1) (.int .i64 ((g : Int) + 1)) rfl).set (P := m.L) (j := 2) (.int .i64 (a : Int)) rfl).set (P := m.L) (j := 3) (.slice A n c) rfl
          exact ⟨h1.os, h1.tape, h1.output, h1.size, h1.block⟩
        generalize (((wr.setCell ⟨m.L, 1, none⟩ (.int .i64 ((g : Int) + 1))).setCell ⟨m.L, 2, none⟩ (.int .i64 (a : Int))).setCell ⟨m.L, 3, none⟩ (.slice A n c)).drew = w8 at hS hOS ⊢
        have HEND : Hid (KeepPost F w m A R (.returned (.int .i64 0)) w8) := Lib.hid (by
          rw [HRF.out]
          have hs7 := HB7.out.size
          have hLlt7 := World.block_lt_of_cell? _ _ HKA.out.lc
          have hwr := HOUT.out.size
          have ho8 : OutP (fun x => F x ∨ x = m.L) w7 w8 := (HOUT.out.mono (fun x hx => (.inl hx : F x ∨ x = m.L))).trans hOS (fun _ _ h => h) (fun _ _ h => .inr h)
          refine ⟨rfl, ?_, (OutP.of HB7.out).trans ho8 (fun _ _ h => h) (fun _ _ h => h), ⟨m.L, m.P, A, c⟩, rfl, rfl, ⟨?_, ?_, ?_, ?_⟩, .inr rfl⟩
          · refine (HHD.out.out hOS (fun x hx hor hxl => ?_)).mono (fun x hx => ?_)
            · subst hxl
              exact hor.elim HKA.out.nL (fun h => by omega)
            · have := hOS.size
              exact hx.elim .inl (fun h => .inr ⟨by omega, by omega⟩)
          · dsimp only
            rw [hS, hn, show ((g + 1 : Nat) : Int) = (g : Int) + 1 by omega]
          · dsimp only
            refine fun h0 => ?_
            obtain ⟨b', o', e, hlt', hc'⟩ := hfr h0
            refine ⟨b', o', e, by have := ho8.size; omega, fun j hj => ?_⟩
            have hA0 := hA (by omega)
            have h1 := (HB7.out.cell (p := ⟨b', o' + j, none⟩) hlt').trans (hc' j hj)
            refine out_cell ho8 h1 ?_
            rintro (hx | hx)
            · exact hAF b' (by rw [e]; simp [blkOf]) hx
            · exact no_bytes HL7.out.log (by rw [← hx]; exact h1)
          · rw [hn]; exact ⟨hnc, hcm⟩
          · intro x hx
            rcases (mem_LF _ x).1 hx with rfl | hx
            · show m.L < _
              have := ho8.size
              omega
            · have := hAl x hx
              have := ho8.size
              omega)
        clear HKE HR
        go_wp2_with fail
        go_ret
        exact HEND.out
end Go.Proofs.YtfceljbmdcbciaaDoor
