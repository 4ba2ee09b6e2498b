/- What an Append or a Replace answers, and what is found behind it, for a disk on which nothing is staged. No condition. An Append where there is room and no fault, plain. No condition. -/
import Derived.Test.YtfceljbmdcbciaaDoorMg11
namespace Go.Proofs.YtfceljbmdcbciaaDoor
set_option maxRecDepth 8000
namespace Wl
open Dk (D blk lay layAll layCut cutAt pad)

def rds (l : L) : List Bytes := (Fr.scan l.fr).1
theorem Inv.frames {c n : Nat} {kept : Bytes} {l : L} (h : Inv c n kept l) : l.fr = Fr.frames (rds l) ∧ (rds l).all Fr.ok = true := by
  obtain ⟨h1, h2, _, _⟩ := Fr.scan_is l.fr.length l.fr (Nat.le_refl _)
  refine ⟨?_, h1⟩
  rw [h.recs, List.drop_length, List.append_nil] at h2
  exact h2
/-- What keep is asked for: an Append, or a Replace. -/
structure Ask (l : L) (a f : Nat) (fr : Bytes) (after : List Bytes) : Prop where
  area : a ≤ 1
  from_ : 32 * f ≤ fr.length
  ahead : f = 0 ∨ (a = l.area ∧ 32 * f ≤ l.fr.length)
  pre : a = l.area → l.fr <+: fr
  scan : Fr.scan fr = (after, fr.length)
theorem Inv.ask_append {c n : Nat} {kept : Bytes} {l : L} (h : Inv c n kept l) {b : Bytes} (hb : Fr.ok b = true) : Ask l l.area (l.fr.length / 32) (l.fr ++ Fr.frame b) (rds l ++ [b]) where
  area := h.a1
  from_ := by rw [List.length_append]; omega
  ahead := .inr ⟨rfl, by omega⟩
  pre := fun _ => List.prefix_append _ _
  scan := by
    obtain ⟨h1, h2⟩ := h.frames
    have e : l.fr ++ Fr.frame b = Fr.frames (rds l ++ [b]) := by
      rw [Fr.frames_app, ← h1, Fr.frames_cons]
      show _ = l.fr ++ (Fr.frame b ++ Fr.frames [])
      rw [show Fr.frames [] = [] from rfl, List.append_nil]
    rw [e, Fr.scan_all (by rw [List.all_append, h2]; simp [hb])]
theorem Inv.ask_replace {c n : Nat} {kept : Bytes} {l : L} (h : Inv c n kept l) {all : List Bytes} (hb : all.all Fr.ok = true) : Ask l (1 - l.area) 0 (Fr.frames all) all where
  area := by omega
  from_ := by omega
  ahead := .inl rfl
  pre := fun e => by have := h.a1; omega
  scan := Fr.scan_all hb
theorem Inv.plan {c n : Nat} {kept : Bytes} {l : L} (h : Inv c n kept l) {a f : Nat} {fr : Bytes} {after : List Bytes} (hk : Ask l a f fr after) (hr : fr.length ≤ areaBytes n) : Plan n l a f fr where
  a1 := hk.area
  la1 := h.a1
  n4 := h.n4
  room := hr
  used := h.used
  from_ := hk.from_
  ahead := hk.ahead
  pre := hk.pre
/-- A disk on which nothing fails. -/
def Fresh (d : D) : Prop := d.left < 0 ∧ d.plan = []
def valid (n : Nat) : C → Prop
  | .wr i b => i < n ∧ b.length ≤ 32
  | .sync => True
theorem run_fresh {n : Nat} : ∀ (cs : List C) (d : D), Fresh d → d.n = n → (∀ c ∈ cs, valid n c) → (runC d cs).2 = true ∧ Fresh (runC d cs).1
  | [], d, h, _, _ => ⟨rfl, h⟩
  | c :: r, d, h, hn, hv => by
    have hc := hv c (by simp)
    have key : callE d c = 0 ∧ Fresh (call d c) ∧ (call d c).n = n := by
      cases c with
      | wr i b =>
        obtain ⟨e1, e2⟩ := (Dk.fresh_write h.1 h.2 (i : Int) b hc.2).2 (by omega) (by have := hc.1; omega)
        refine ⟨e1, ?_⟩
        show Fresh (d.write i b) ∧ (d.write i b).n = n
        rw [e2]
        exact ⟨h, hn⟩
      | sync =>
        obtain ⟨e1, e2⟩ := Dk.fresh_sync h.1 h.2
        refine ⟨e1, ?_⟩
        show Fresh d.sync ∧ d.sync.n = n
        rw [e2]
        exact ⟨h, hn⟩
    have e : runC d (c :: r) = runC (call d c) r := by show (if _ then _ else _) = _; rw [if_pos key.1]
    rw [e]
    exact run_fresh r _ key.2.1 key.2.2 (fun x hx => hv x (by simp [hx]))
theorem Plan.valid {n : Nat} {l : L} {area frm : Nat} {fr : Bytes} (h : Plan n l area frm fr) (g : Nat) : ∀ c ∈ keepC n area frm fr g, valid n c := by
  intro c hc
  unfold keepC at hc
  rcases List.mem_append.1 hc with hc | hc
  · rw [writesC_wl] at hc
    obtain ⟨s, hs, rfl⟩ := List.mem_map.1 hc
    have h1 := h.fits s hs
    refine ⟨h1.2.1, ?_⟩
    unfold wl at hs
    obtain ⟨k, _, rfl⟩ := List.mem_map.1 hs
    show (chunk _ k).length ≤ 32
    unfold chunk
    rw [List.length_take]
    omega
  · simp only [List.mem_cons, List.not_mem_nil, or_false] at hc
    rcases hc with rfl | rfl | rfl
    · trivial
    · exact ⟨by have := h.n4; omega, by rw [head_len]; omega⟩
    · trivial
/-- What keep leaves. -/
structure Kept (c n : Nat) (d : D) (l : L) (after : List Bytes) (r : Int × D × L) : Prop where
  kinds : r.1 = 0 ∨ r.1 = 5 ∨ r.1 = 21
  full : r.1 = 5 → r.2.1 = d ∧ r.2.2 = l
  done : r.1 = 0 → Inv c n r.2.1.kept r.2.2 ∧ r.2.1.st = [] ∧ r.2.1.n = n ∧ rds r.2.2 = after
  bad : r.1 = 21 → r.2.2 = l ∧ r.2.1.n = n ∧ (r.2.1.st = [] → Inv c n r.2.1.kept l) ∧ ∀ cuts, cutAt cuts 0 = c → ∃ l', Inv c n (r.2.1.crash cuts).kept l' ∧ (rds l' = rds l ∨ rds l' = after)
  fresh : Fresh d → r.1 ≠ 21 ∧ Fresh r.2.1
theorem crash_nil {d : D} (h : d.st = []) (cuts : Bytes) : (d.crash cuts).kept = d.kept := by
  unfold D.crash
  rw [h]
  rfl
theorem Inv.keep {c n : Nat} {d : D} {l : L} (h : Inv c n d.kept l) (hc : c ≤ 32) (hn : d.n = n) (hst : d.st = []) {a f : Nat} {fr : Bytes} {after : List Bytes} (hk : Ask l a f fr after) : Kept c n d l after (Wl.keep d l a f fr) := by
  unfold Wl.keep
  by_cases hf : areaBytes d.n < fr.length ∨ l.gen = 262143
  · rw [if_pos hf]
    exact ⟨.inr (.inl rfl), fun _ => ⟨rfl, rfl⟩, fun e => by simp at e, fun e => by simp at e, fun hF => ⟨by simp, hF⟩⟩
  · rw [if_neg hf]
    have hr : fr.length ≤ areaBytes n := by rw [← hn]; omega
    have hg : l.gen < 262143 := by have := h.gen; omega
    have hrec : (Fr.scan fr).2 = fr.length := by rw [hk.scan]
    have hP := h.plan hk hr
    have hcame := hP.came (l.gen + 1) (h.start hn rfl hst) hst
    have hfr : Fresh d → (runC d (keepC n a f fr (l.gen + 1))).2 = true ∧ Fresh (runC d (keepC n a f fr (l.gen + 1))).1 := fun hF => run_fresh _ d hF hn (hP.valid _)
    rw [hn]
    obtain ⟨r, hrr⟩ : ∃ r, r = runC d (keepC n a f fr (l.gen + 1)) := ⟨_, rfl⟩
    rw [← hrr] at hcame hfr ⊢
    have hrecs : rds ⟨l.gen + 1, a, fr⟩ = after := by unfold rds; rw [hk.scan]
    dsimp only
    cases hcame with
    | early h2 hm =>
      rw [h2]
      have hm' := hm.drop
      refine ⟨.inr (.inr rfl), fun e => by simp at e, fun e => by simp at e, fun _ => ⟨rfl, hm'.dn, fun _ => h.same hm'.same, fun cuts _ => ⟨l, h.same (Same.layCut cuts _ 0 hm'.same hm'.st), .inl rfl⟩⟩, fun hF => ?_⟩
      have := (hfr hF).1
      rw [h2] at this
      cases this
    | torn h2 hdn hnew hs =>
      rw [h2]
      have hdn' : r.1.drop.n = n := by unfold D.drop; split <;> exact hdn
      have hkd : r.1.drop.kept = r.1.kept := by unfold D.drop; split <;> rfl
      refine ⟨.inr (.inr rfl), fun e => by simp at e, fun e => by simp at e, fun _ => ⟨rfl, hdn', fun _ => ?_, fun cuts hcut => ?_⟩, fun hF => ?_⟩
      · show Inv c n r.1.drop.kept l
        rw [hkd]
        exact h.same hnew.1
      · show ∃ l', Inv c n (r.1.drop.crash cuts).kept l' ∧ _
        unfold D.drop
        by_cases hl : r.1.left = 0
        · rw [if_pos hl]
          have hk2 : (r.1.crash cuts).kept = lay r.1.kept ((l.gen + 1) % 2, pad (head (l.gen + 1) a fr.length)) c := by
            unfold D.crash
            rw [hs]
            show lay r.1.kept _ (cutAt cuts 0) = _
            rw [hcut]
          rw [hk2]
          rcases h.torn hc hg hk.area hr hrec hnew with h3 | h3
          · exact ⟨l, h3, .inl rfl⟩
          · exact ⟨_, h3, .inr hrecs⟩
        · rw [if_neg hl, crash_nil rfl]
          exact ⟨l, h.same hnew.1, .inl rfl⟩
      · have := (hfr hF).1
        rw [h2] at this
        cases this
    | whole h2 hdn k1 hnew hkd hs =>
      rw [h2]
      refine ⟨.inl rfl, fun e => by simp at e, fun _ => ⟨?_, hs, hdn, hrecs⟩, fun e => by simp at e, fun hF => ⟨by simp, (hfr hF).2⟩⟩
      show Inv c n r.1.kept ⟨l.gen + 1, a, fr⟩
      rw [hkd]
      refine h.new hg hk.area hr hrec hnew (Nat.le_refl _) ?_
      have hlt : (l.gen + 1) % 2 < 2 := Nat.mod_lt _ (by decide)
      have h4 := h.n4
      rw [h8_lay hnew.1.len (by omega) (head_len _ _ _) (Nat.le_refl _), List.take_of_length_le (by rw [head_len]; omega), List.drop_eq_nil_of_le (by rw [h8_len hnew.1.len (by omega)]; omega), List.append_nil]
/-- An Append. -/
theorem Inv.append {c n : Nat} {d : D} {l : L} (h : Inv c n d.kept l) (hc : c ≤ 32) (hn : d.n = n) (hst : d.st = []) (b : Bytes) :
    (∃ e : Nat, (e = 1 ∨ e = 2) ∧ Wl.append d l b = ((e : Int), d, l)) ∨ Kept c n d l (rds l ++ [b]) (Wl.append d l b) := by
  unfold Wl.append
  cases hok : Fr.ok b with
  | true =>
    rw [Fr.put_ok hok]
    exact .inr (h.keep hc hn hst (h.ask_append hok))
  | false =>
    obtain ⟨e, he, hp⟩ := Fr.put_bad hok
    rw [hp]
    exact .inl ⟨e, he, rfl⟩
/-- A Replace. -/
theorem Inv.replace {c n : Nat} {d : D} {l : L} (h : Inv c n d.kept l) (hc : c ≤ 32) (hn : d.n = n) (hst : d.st = []) (all : List Bytes) :
    (∃ e : Nat, (e = 1 ∨ e = 2) ∧ Wl.replace d l all = ((e : Int), d, l)) ∨ Kept c n d l all (Wl.replace d l all) := by
  unfold Wl.replace
  cases hok : all.all Fr.ok with
  | true =>
    rw [Fr.all_of_ok hok]
    exact .inr (h.keep hc hn hst (h.ask_replace hok))
  | false =>
    obtain ⟨e, he, hp⟩ := Fr.all_bad hok
    rw [hp]
    exact .inl ⟨e, he, rfl⟩
end Wl
end Go.Proofs.YtfceljbmdcbciaaDoor
namespace Go.Proofs.YtfceljbmdcbciaaDoor
set_option maxRecDepth 8000
namespace Wl
open Dk (D)

theorem Inv.append_ok {c n : Nat} {d : D} {l : L} (h : Inv c n d.kept l) (hc : c ≤ 32) (hn : d.n = n) (hst : d.st = []) (hf : Fresh d) {b : Bytes} (hok : Fr.ok b = true) (hr : (l.fr ++ Fr.frame b).length ≤ areaBytes n) (hg : l.gen < 262143) :
    ∃ d', Wl.append d l b = (0, d', ⟨l.gen + 1, l.area, l.fr ++ Fr.frame b⟩) ∧ Inv c n d'.kept ⟨l.gen + 1, l.area, l.fr ++ Fr.frame b⟩ ∧ d'.st = [] ∧ d'.n = n ∧ Fresh d' ∧ rds ⟨l.gen + 1, l.area, l.fr ++ Fr.frame b⟩ = rds l ++ [b] := by
  rcases h.append hc hn hst b with ⟨e, he, hp⟩ | hk
  · exfalso
    unfold Wl.append at hp
    rw [Fr.put_ok hok] at hp
    dsimp only at hp
    unfold Wl.keep at hp
    split at hp
    · injection hp with hp _; omega
    · dsimp only at hp
      split at hp
      · injection hp with hp _; omega
      · injection hp with hp _; omega
  · have hfr := hk.fresh hf
    have hnf : ¬ (areaBytes d.n < (l.fr ++ Fr.frame b).length ∨ l.gen = 262143) := by
      rw [hn]
      omega
    have hA : Wl.append d l b = (if (runC d (keepC d.n l.area (l.fr.length / 32) (l.fr ++ Fr.frame b) (l.gen + 1))).2 then (0, (runC d (keepC d.n l.area (l.fr.length / 32) (l.fr ++ Fr.frame b) (l.gen + 1))).1, ⟨l.gen + 1, l.area, l.fr ++ Fr.frame b⟩) else (21, (runC d (keepC d.n l.area (l.fr.length / 32) (l.fr ++ Fr.frame b) (l.gen + 1))).1.drop, l)) := by
      unfold Wl.append
      rw [Fr.put_ok hok]
      dsimp only
      unfold Wl.keep
      rw [if_neg hnf]
    cases hq : (runC d (keepC d.n l.area (l.fr.length / 32) (l.fr ++ Fr.frame b) (l.gen + 1))).2 with
    | false =>
      rw [hq] at hA
      exact absurd (by rw [hA]; rfl) hfr.1
    | true =>
      rw [hq] at hA
      have hd := hk.done (by rw [hA]; rfl)
      have hf2 := hfr.2
      rw [hA] at hd hf2
      exact ⟨_, by rw [hA]; rfl, hd.1, hd.2.1, hd.2.2.1, hf2, hd.2.2.2⟩
end Wl
end Go.Proofs.YtfceljbmdcbciaaDoor
