/- What an Append or a Replace answers, and what is found behind it, for a disk on which nothing is staged. No condition. The statements' steps on a log and its disk: New and Open, Open anew, Stop, Crash, Faults, what the log tells. No condition. -/
import Derived.Test.YtkmljbbnpjlehaaDoorMg22
import Derived.Test.YtkmljbbnpjlehaaDoorMg30
namespace Go.Proofs.YtkmljbbnpjlehaaDoor
set_option maxRecDepth 8000
namespace Wl
open Dk (D blk lay layAll layCut cutAt pad)

def rds (l : L) : List Bytes := (Fr.scan l.fr).1
theorem Inv.frames {c n : Nat} {kept : Bytes} {l : L} (h : Inv c n kept l) : l.fr = Fr.frames (rds l) ∧ (rds l).all Fr.ok = true := by
  obtain ⟨h1, h2, _, _⟩ := Fr.scan_is l.fr.length l.fr (Nat.le_refl _)
  refine ⟨?_, h1⟩
  rw [h.recs, List.drop_length, List.append_nil] at h2
  exact h2
/-- What keep is asked for: an Append, or a Replace. -/
structure Ask (l : L) (a f : Nat) (fr : Bytes) (after : List Bytes) : Prop where
  area : a ≤ 1
  from_ : 32 * f ≤ fr.length
  ahead : f = 0 ∨ (a = l.area ∧ 32 * f ≤ l.fr.length)
  pre : a = l.area → l.fr <+: fr
  scan : Fr.scan fr = (after, fr.length)
theorem Inv.ask_append {c n : Nat} {kept : Bytes} {l : L} (h : Inv c n kept l) {b : Bytes} (hb : Fr.ok b = true) : Ask l l.area (l.fr.length / 32) (l.fr ++ Fr.frame b) (rds l ++ [b]) where
  area := h.a1
  from_ := by rw [List.length_append]; omega
  ahead := .inr ⟨rfl, by omega⟩
  pre := fun _ => List.prefix_append _ _
  scan := by
    obtain ⟨h1, h2⟩ := h.frames
    have e : l.fr ++ Fr.frame b = Fr.frames (rds l ++ [b]) := by
      rw [Fr.frames_app, ← h1, Fr.frames_cons]
      show _ = l.fr ++ (Fr.frame b ++ Fr.frames [])
      rw [show Fr.frames [] = [] from rfl, List.append_nil]
    rw [e, Fr.scan_all (by rw [List.all_append, h2]; simp [hb])]
theorem Inv.ask_replace {c n : Nat} {kept : Bytes} {l : L} (h : Inv c n kept l) {all : List Bytes} (hb : all.all Fr.ok = true) : Ask l (1 - l.area) 0 (Fr.frames all) all where
  area := by omega
  from_ := by omega
  ahead := .inl rfl
  pre := fun e => by have := h.a1; omega
  scan := Fr.scan_all hb
theorem Inv.plan {c n : Nat} {kept : Bytes} {l : L} (h : Inv c n kept l) {a f : Nat} {fr : Bytes} {after : List Bytes} (hk : Ask l a f fr after) (hr : fr.length ≤ areaBytes n) : Plan n l a f fr where
  a1 := hk.area
  la1 := h.a1
  n4 := h.n4
  room := hr
  used := h.used
  from_ := hk.from_
  ahead := hk.ahead
  pre := hk.pre
/-- A disk on which nothing fails. -/
def Fresh (d : D) : Prop := d.left < 0 ∧ d.plan = []
def valid (n : Nat) : C → Prop
  | .wr i b => i < n ∧ b.length ≤ 32
  | .sync => True
theorem run_fresh {n : Nat} : ∀ (cs : List C) (d : D), Fresh d → d.n = n → (∀ c ∈ cs, valid n c) → (runC d cs).2 = true ∧ Fresh (runC d cs).1
  | [], d, h, _, _ => ⟨rfl, h⟩
  | c :: r, d, h, hn, hv => by
    have hc := hv c (by simp)
    have key : callE d c = 0 ∧ Fresh (call d c) ∧ (call d c).n = n := by
      cases c with
      | wr i b =>
        obtain ⟨e1, e2⟩ := (Dk.fresh_write h.1 h.2 (i : Int) b hc.2).2 (by omega) (by have := hc.1; omega)
        refine ⟨e1, ?_⟩
        show Fresh (d.write i b) ∧ (d.write i b).n = n
        rw [e2]
        exact ⟨h, hn⟩
      | sync =>
        obtain ⟨e1, e2⟩ := Dk.fresh_sync h.1 h.2
        refine ⟨e1, ?_⟩
        show Fresh d.sync ∧ d.sync.n = n
        rw [e2]
        exact ⟨h, hn⟩
    have e : runC d (c :: r) = runC (call d c) r := by show (if _ then _ else _) = _; rw [if_pos key.1]
    rw [e]
    exact run_fresh r _ key.2.1 key.2.2 (fun x hx => hv x (by simp [hx]))
theorem Plan.valid {n : Nat} {l : L} {area frm : Nat} {fr : Bytes} (h : Plan n l area frm fr) (g : Nat) : ∀ c ∈ keepC n area frm fr g, valid n c := by
  intro c hc
  unfold keepC at hc
  rcases List.mem_append.1 hc with hc | hc
  · rw [writesC_wl] at hc
    obtain ⟨s, hs, rfl⟩ := List.mem_map.1 hc
    have h1 := h.fits s hs
    refine ⟨h1.2.1, ?_⟩
    unfold wl at hs
    obtain ⟨k, _, rfl⟩ := List.mem_map.1 hs
    show (chunk _ k).length ≤ 32
    unfold chunk
    rw [List.length_take]
    omega
  · simp only [List.mem_cons, List.not_mem_nil, or_false] at hc
    rcases hc with rfl | rfl | rfl
    · trivial
    · exact ⟨by have := h.n4; omega, by rw [head_len]; omega⟩
    · trivial
/-- What keep leaves. -/
structure Kept (c n : Nat) (d : D) (l : L) (after : List Bytes) (r : Int × D × L) : Prop where
  kinds : r.1 = 0 ∨ r.1 = 5 ∨ r.1 = 21
  full : r.1 = 5 → r.2.1 = d ∧ r.2.2 = l
  done : r.1 = 0 → Inv c n r.2.1.kept r.2.2 ∧ r.2.1.st = [] ∧ r.2.1.n = n ∧ rds r.2.2 = after
  bad : r.1 = 21 → r.2.2 = l ∧ r.2.1.n = n ∧ (r.2.1.st = [] → Inv c n r.2.1.kept l) ∧ ∀ cuts, cutAt cuts 0 = c → ∃ l', Inv c n (r.2.1.crash cuts).kept l' ∧ (rds l' = rds l ∨ rds l' = after)
  fresh : Fresh d → r.1 ≠ 21 ∧ Fresh r.2.1
theorem crash_nil {d : D} (h : d.st = []) (cuts : Bytes) : (d.crash cuts).kept = d.kept := by
  unfold D.crash
  rw [h]
  rfl
theorem Inv.keep {c n : Nat} {d : D} {l : L} (h : Inv c n d.kept l) (hc : c ≤ 32) (hn : d.n = n) (hst : d.st = []) {a f : Nat} {fr : Bytes} {after : List Bytes} (hk : Ask l a f fr after) : Kept c n d l after (Wl.keep d l a f fr) := by
  unfold Wl.keep
  by_cases hf : areaBytes d.n < fr.length ∨ l.gen = 262143
  · rw [if_pos hf]
    exact ⟨.inr (.inl rfl), fun _ => ⟨rfl, rfl⟩, fun e => by simp at e, fun e => by simp at e, fun hF => ⟨by simp, hF⟩⟩
  · rw [if_neg hf]
    have hr : fr.length ≤ areaBytes n := by rw [← hn]; omega
    have hg : l.gen < 262143 := by have := h.gen; omega
    have hrec : (Fr.scan fr).2 = fr.length := by rw [hk.scan]
    have hP := h.plan hk hr
    have hcame := hP.came (l.gen + 1) (h.start hn rfl hst) hst
    have hfr : Fresh d → (runC d (keepC n a f fr (l.gen + 1))).2 = true ∧ Fresh (runC d (keepC n a f fr (l.gen + 1))).1 := fun hF => run_fresh _ d hF hn (hP.valid _)
    rw [hn]
    obtain ⟨r, hrr⟩ : ∃ r, r = runC d (keepC n a f fr (l.gen + 1)) := ⟨_, rfl⟩
    rw [← hrr] at hcame hfr ⊢
    have hrecs : rds ⟨l.gen + 1, a, fr⟩ = after := by unfold rds; rw [hk.scan]
    dsimp only
    cases hcame with
    | early h2 hm =>
      rw [h2]
      have hm' := hm.drop
      refine ⟨.inr (.inr rfl), fun e => by simp at e, fun e => by simp at e, fun _ => ⟨rfl, hm'.dn, fun _ => h.same hm'.same, fun cuts _ => ⟨l, h.same (Same.layCut cuts _ 0 hm'.same hm'.st), .inl rfl⟩⟩, fun hF => ?_⟩
      have := (hfr hF).1
      rw [h2] at this
      cases this
    | torn h2 hdn hnew hs =>
      rw [h2]
      have hdn' : r.1.drop.n = n := by unfold D.drop; split <;> exact hdn
      have hkd : r.1.drop.kept = r.1.kept := by unfold D.drop; split <;> rfl
      refine ⟨.inr (.inr rfl), fun e => by simp at e, fun e => by simp at e, fun _ => ⟨rfl, hdn', fun _ => ?_, fun cuts hcut => ?_⟩, fun hF => ?_⟩
      · show Inv c n r.1.drop.kept l
        rw [hkd]
        exact h.same hnew.1
      · show ∃ l', Inv c n (r.1.drop.crash cuts).kept l' ∧ _
        unfold D.drop
        by_cases hl : r.1.left = 0
        · rw [if_pos hl]
          have hk2 : (r.1.crash cuts).kept = lay r.1.kept ((l.gen + 1) % 2, pad (head (l.gen + 1) a fr.length)) c := by
            unfold D.crash
            rw [hs]
            show lay r.1.kept _ (cutAt cuts 0) = _
            rw [hcut]
          rw [hk2]
          rcases h.torn hc hg hk.area hr hrec hnew with h3 | h3
          · exact ⟨l, h3, .inl rfl⟩
          · exact ⟨_, h3, .inr hrecs⟩
        · rw [if_neg hl, crash_nil rfl]
          exact ⟨l, h.same hnew.1, .inl rfl⟩
      · have := (hfr hF).1
        rw [h2] at this
        cases this
    | whole h2 hdn k1 hnew hkd hs =>
      rw [h2]
      refine ⟨.inl rfl, fun e => by simp at e, fun _ => ⟨?_, hs, hdn, hrecs⟩, fun e => by simp at e, fun hF => ⟨by simp, (hfr hF).2⟩⟩
      show Inv c n r.1.kept ⟨l.gen + 1, a, fr⟩
      rw [hkd]
      refine h.new hg hk.area hr hrec hnew (Nat.le_refl _) ?_
      have hlt : (l.gen + 1) % 2 < 2 := Nat.mod_lt _ (by decide)
      have h4 := h.n4
      rw [h8_lay hnew.1.len (by omega) (head_len _ _ _) (Nat.le_refl _), List.take_of_length_le (by rw [head_len]; omega), List.drop_eq_nil_of_le (by rw [h8_len hnew.1.len (by omega)]; omega), List.append_nil]
/-- An Append. -/
theorem Inv.append {c n : Nat} {d : D} {l : L} (h : Inv c n d.kept l) (hc : c ≤ 32) (hn : d.n = n) (hst : d.st = []) (b : Bytes) :
    (∃ e : Nat, (e = 1 ∨ e = 2) ∧ Wl.append d l b = ((e : Int), d, l)) ∨ Kept c n d l (rds l ++ [b]) (Wl.append d l b) := by
  unfold Wl.append
  cases hok : Fr.ok b with
  | true =>
    rw [Fr.put_ok hok]
    exact .inr (h.keep hc hn hst (h.ask_append hok))
  | false =>
    obtain ⟨e, he, hp⟩ := Fr.put_bad hok
    rw [hp]
    exact .inl ⟨e, he, rfl⟩
/-- A Replace. -/
theorem Inv.replace {c n : Nat} {d : D} {l : L} (h : Inv c n d.kept l) (hc : c ≤ 32) (hn : d.n = n) (hst : d.st = []) (all : List Bytes) :
    (∃ e : Nat, (e = 1 ∨ e = 2) ∧ Wl.replace d l all = ((e : Int), d, l)) ∨ Kept c n d l all (Wl.replace d l all) := by
  unfold Wl.replace
  cases hok : all.all Fr.ok with
  | true =>
    rw [Fr.all_of_ok hok]
    exact .inr (h.keep hc hn hst (h.ask_replace hok))
  | false =>
    obtain ⟨e, he, hp⟩ := Fr.all_bad hok
    rw [hp]
    exact .inl ⟨e, he, rfl⟩
end Wl
end Go.Proofs.YtkmljbbnpjlehaaDoor
namespace Go.Proofs.YtkmljbbnpjlehaaDoor
set_option maxRecDepth 8000
open Go.RowKit

theorem sy_new {w w1 w2 : World} {e : Ending} {d : Dk.D} {P : Nat} {l : Wl.L} (hd : SD w.heap.size w1 P d) (hb1 : Below w.heap.size w w1) (ho : OpenPost w1 P (.ok l) e w2) :
    ∃ L, e = .returned (.tuple #[.pointer (some ⟨L, 0, none⟩), .int .i64 0]) ∧ SY (fun x => w.heap.size ≤ x ∧ x < w2.heap.size) w2 P L d l ∧ Below w.heap.size w w2 := by
  obtain ⟨hb, m, hP, he, hl, hF⟩ := ho
  have hz1 := hb1.size
  have hz := hb.size
  refine ⟨m.L, he, ⟨fun x => w.heap.size ≤ x ∧ x < w1.heap.size, m, rfl, hP, hd.hd.keep hb, hl, fun x hx => ⟨fun h => by have := hF x hx; omega, by have := hF x hx; omega, hl.lt x hx⟩, fun x hx => ⟨⟨hx.1, by omega⟩, by omega⟩⟩, hb1.trans (hb.mono hz1)⟩
theorem sy_open {F : Nat → Prop} {w w2 : World} {e : Ending} {d : Dk.D} {P L : Nat} {l0 l : Wl.L} (h : SY F w P L d l0) (ho : OpenPost w P (.ok l) e w2) :
    ∃ L', e = .returned (.tuple #[.pointer (some ⟨L', 0, none⟩), .int .i64 0]) ∧ SY (Or F w.heap.size w2.heap.size) w2 P L' d l ∧ Below w.heap.size w w2 := by
  obtain ⟨hb, m, hP, he, hl, hF⟩ := ho
  obtain ⟨G, m0, h1, h2, h3, h4, h5, h6⟩ := h
  have hz := hb.size
  refine ⟨m.L, he, ⟨G, m, rfl, hP, h3.keep hb, hl, fun x hx => ⟨fun hg => by have := hF x hx; have := (h6 x hg).2; omega, .inr ⟨hF x hx, hl.lt x hx⟩⟩, fun x hx => ⟨.inl (h6 x hx).1, by have := (h6 x hx).2; omega⟩⟩, hb⟩
section
variable {F : Nat → Prop} {w : World} {P L : Nat} {d : Dk.D} {l : Wl.L}
theorem stop_sy (h : SY F w P L d l) (n : Int) (hn : I64 n) : Calls Tryd.prog 34 #[.pointer (some ⟨P, 0, none⟩), .int .i64 n] w fun e w' => e = .returned (.tuple #[]) ∧ SY (Or F w.heap.size w'.heap.size) w' P L (d.stop n) l ∧ OutP F w w' := by
  obtain ⟨G, m, h1, h2, h3, h4⟩ := h
  refine (stop_hd h3 n hn).mono ?_
  rintro e w' ⟨rfl, h7, h8⟩
  have hs : SY F w P L d l := ⟨G, m, h1, h2, h3, h4⟩
  refine ⟨rfl, ?_⟩
  obtain ⟨h5, h6⟩ := h4.2
  have hz := h8.size
  refine ⟨⟨Or G w.heap.size w'.heap.size, m, h1, h2, h7, h4.1.same (fun x hx => h8.block x (h4.1.lt x hx) (h5 x hx).1) hz, fun x hx => ⟨fun hor => hor.elim (h5 x hx).1 (fun h => by have := h4.1.lt x hx; omega), .inl (h5 x hx).2⟩, fun x hx => ?_⟩, h8.mono (fun x hx => (h6 x hx).1)⟩
  rcases hx with hx | hx
  · exact ⟨.inl (h6 x hx).1, by have := (h6 x hx).2; omega⟩
  · exact ⟨.inr hx, hx.2⟩
theorem crash_sy (h : SY F w P L d l) (hst : d.st.length ≤ 1048576) (A : Option Addr) (cap : Nat) (b : List UInt8) (hl : b.length ≤ 9223372036854775807) (hA : BIn w A b) (hF : 0 < b.length → ∀ ad, A = some ad → ¬ F ad.block) :
    Calls Tryd.prog 35 #[.pointer (some ⟨P, 0, none⟩), .slice A b.length cap] w fun e w' => e = .returned (.tuple #[]) ∧ SY (Or F w.heap.size w'.heap.size) w' P L (d.crash b) l ∧ OutP F w w' := by
  obtain ⟨G, m, h1, h2, h3, h4⟩ := h
  obtain ⟨h5, h6⟩ := h4.2
  refine (crash_hd h3 hst A cap b hl hA (fun hn ad e hg => hF hn ad e (h6 _ hg).1)).mono ?_
  rintro e w' ⟨rfl, h7, h8⟩
  have hz := h8.size
  refine ⟨rfl, ⟨Or G w.heap.size w'.heap.size, m, h1, h2, h7, h4.1.same (fun x hx => h8.block x (h4.1.lt x hx) (h5 x hx).1) hz, fun x hx => ⟨fun hor => hor.elim (h5 x hx).1 (fun h => by have := h4.1.lt x hx; omega), .inl (h5 x hx).2⟩, fun x hx => ?_⟩, h8.mono (fun x hx => (h6 x hx).1)⟩
  rcases hx with hx | hx
  · exact ⟨.inl (h6 x hx).1, by have := (h6 x hx).2; omega⟩
  · exact ⟨.inr hx, hx.2⟩
theorem open_sy (h : SY F w P L d l) (hH : Hs w) (hst : d.st = []) {c n : Nat} {l' : Wl.L} (hn : d.n = n) (hi : Wl.Inv c n d.kept l') :
    Calls Tryd.prog 16 #[.pointer (some ⟨P, 0, none⟩)] w fun e w' => ∃ L', e = .returned (.tuple #[.pointer (some ⟨L', 0, none⟩), .int .i64 0]) ∧ SY (Or F w.heap.size w'.heap.size) w' P L' d l' ∧ Below w.heap.size w w' := by
  refine (walOpen_any w P d hH h.hd.sd hst).mono ?_
  intro e w' ho
  rw [hn, hi.openK] at ho
  exact sy_open h ho
theorem records_sy (h : SY F w P L d l) (hH : Hs w) (hl : l.fr.length ≤ 16777216) : Calls Tryd.prog 33 #[.pointer (some ⟨L, 0, none⟩)] w (RecPost (Wl.rds l) w) := by
  obtain ⟨m, rfl, _, hm⟩ := h.at
  exact records_any w m l hH hm hl
theorem used_sy (h : SY F w P L d l) : Calls Tryd.prog 38 #[.pointer (some ⟨L, 0, none⟩)] w fun e w' => e = .returned (.int .i64 (l.fr.length : Int)) ∧ w = w' := by
  obtain ⟨m, rfl, _, hm⟩ := h.at
  exact used_any w m l hm
theorem gen_sy (h : SY F w P L d l) : Calls Tryd.prog 39 #[.pointer (some ⟨L, 0, none⟩)] w fun e w' => e = .returned (.int .i64 (l.gen : Int)) ∧ w = w' := by
  obtain ⟨m, rfl, _, hm⟩ := h.at
  exact gen_any w m l hm
theorem room_sy (h : SY F w P L d l) (h2 : 2 ≤ d.n) (hu : l.fr.length ≤ Wl.areaBytes d.n) : Calls Tryd.prog 57 #[.pointer (some ⟨L, 0, none⟩)] w fun e w' => e = .returned (.int .i64 (Wl.areaBytes d.n - l.fr.length : Int)) ∧ w = w' := by
  obtain ⟨m, rfl, rfl, hm⟩ := h.at
  exact room_any w m l d hm h.hd.sd h2 hu
end
end Go.Proofs.YtkmljbbnpjlehaaDoor
