/- The log that lies on a disk, whatever a crash leaves of a call: the old records, or the new ones. No condition. What an Append or a Replace of the log leaves on a disk, and what is found there behind a crash. No condition. -/
import Derived.Test.YtkmljbbnpjlehaaDoorMg20
namespace Go.Proofs.YtkmljbbnpjlehaaDoor
set_option maxRecDepth 8000
namespace Wl
open Dk (D blk lay layAll layCut cutAt pad)

theorem bytesAt_get (n : Nat) (kept : Bytes) (a u q : Nat) : (bytesAt n kept a u)[q]? = if q < u then kept[32 * start n a + q]? else none := by
  unfold bytesAt
  rw [List.getElem?_take]
  split
  · rw [List.getElem?_drop]
  · rfl
/-- The bytes l lie in an area, from its beginning on. -/
def Lies (n : Nat) (kept : Bytes) (a : Nat) (l : Bytes) : Prop := ∀ q, q < l.length → kept[32 * start n a + q]? = l[q]?
theorem Lies.bytes {n : Nat} {kept : Bytes} {a : Nat} {l : Bytes} (h : Lies n kept a l) : bytesAt n kept a l.length = l := by
  apply List.ext_getElem?
  intro q
  rw [bytesAt_get]
  split
  · exact h q (by assumption)
  · rw [List.getElem?_eq_none (by omega)]
/-- Both heads, and the log's frames, are as they were. -/
structure Same (n : Nat) (l : L) (k0 k : Bytes) : Prop where
  len : k.length = 32 * n
  heads : ∀ q, q < 64 → k[q]? = k0[q]?
  data : Lies n k l.area l.fr
/-- A block whose laying, as far as it comes, leaves both heads and the log's frames. -/
def Fits (n : Nat) (l : L) (s : Nat × Bytes) : Prop := 2 ≤ s.1 ∧ s.1 < n ∧ s.2.length = 32 ∧ ∀ q, q < 32 → ∀ p, p < l.fr.length → 32 * s.1 + q = 32 * start n l.area + p → s.2[q]? = l.fr[p]?
theorem Same.lay {n : Nat} {l : L} {k0 k : Bytes} {s : Nat × Bytes} (h : Same n l k0 k) (hs : Fits n l s) (c : Nat) (hc : c ≤ 32) : Same n l k0 (lay k s c) := by
  obtain ⟨h1, h2, h3, h4⟩ := hs
  refine ⟨Dk.lay_ok c h.len h2 h3, fun q hq => ?_, fun p hp => ?_⟩
  · rw [Dk.lay_get h.len h2 h3 hc, if_neg (by omega)]
    exact h.heads q hq
  · rw [Dk.lay_get h.len h2 h3 hc]
    split
    · rename_i hin
      exact h4 (32 * start n l.area + p - 32 * s.1) (by omega) p hp (by omega)
    · exact h.data p hp
theorem Same.layAll {n : Nat} {l : L} {k0 : Bytes} : ∀ (st : List (Nat × Bytes)) {k : Bytes}, Same n l k0 k → (∀ s ∈ st, Fits n l s) → Same n l k0 (layAll k st)
  | [], _, h, _ => h
  | s :: r, _, h, hs => Same.layAll r (h.lay (hs s (by simp)) 32 (Nat.le_refl _)) (fun x hx => hs x (by simp [hx]))
theorem cut_le (cuts : Bytes) (j : Nat) : cutAt cuts j ≤ 32 := by
  unfold Dk.cutAt
  split
  · omega
  · omega
theorem Same.layCut {n : Nat} {l : L} {k0 : Bytes} (cuts : Bytes) : ∀ (st : List (Nat × Bytes)) (j : Nat) {k : Bytes}, Same n l k0 k → (∀ s ∈ st, Fits n l s) → Same n l k0 (layCut cuts j k st)
  | [], _, _, h, _ => h
  | s :: r, j, _, h, hs => Same.layCut cuts r (j + 1) (h.lay (hs s (by simp)) _ (cut_le cuts j)) (fun x hx => hs x (by simp [hx]))

/-- Where a disk stands while an Append or a Replace goes on, ahead of the head. -/
structure MidA (n : Nat) (l : L) (k0 : Bytes) (d : D) : Prop where
  dn : d.n = n
  same : Same n l k0 d.kept
  st : ∀ s ∈ d.st, Fits n l s
theorem MidA.asked {n : Nat} {l : L} {k0 : Bytes} {d : D} (h : MidA n l k0 d) : MidA n l k0 d.asked := ⟨by rw [Dk.asked_n]; exact h.dn, by rw [Dk.asked_kept]; exact h.same, by rw [Dk.asked_st]; exact h.st⟩
theorem MidA.write {n : Nat} {l : L} {k0 : Bytes} {d : D} (h : MidA n l k0 d) (i : Nat) (b : Bytes) (hi : Fits n l (i, pad b)) : MidA n l k0 (d.write i b) ∧ (d.writeE i b = 0 → (d.write i b).st = d.st ++ [(i, pad b)] ∧ (d.write i b).kept = d.kept) := by
  have h1 := hi.2.1
  unfold D.write D.writeE
  have g1 : ¬ ((i : Int) < 0 ∨ (d.n : Int) ≤ (i : Int)) := by have := h.dn; dsimp only at h1; omega
  rw [if_neg g1, if_neg g1]
  split
  · exact ⟨h, fun e => by simp at e⟩
  · split
    · exact ⟨h.asked, fun e => by simp at e⟩
    · refine ⟨⟨h.asked.dn, h.asked.same, fun s hs => ?_⟩, fun _ => ⟨by rw [Int.toNat_natCast], Dk.asked_kept d⟩⟩
      rcases List.mem_append.1 hs with hs | hs
      · exact h.st s hs
      · rw [List.mem_singleton] at hs
        subst hs
        rw [Int.toNat_natCast]
        exact hi
theorem MidA.sync {n : Nat} {l : L} {k0 : Bytes} {d : D} (h : MidA n l k0 d) : MidA n l k0 d.sync := by
  unfold D.sync
  split
  · exact h.asked
  · exact ⟨by rw [Dk.asked_n]; exact h.dn, Same.layAll _ h.same h.st, fun s hs => by cases hs⟩
theorem MidA.drop {n : Nat} {l : L} {k0 : Bytes} {d : D} (h : MidA n l k0 d) : MidA n l k0 d.drop := by
  unfold D.drop
  split
  · exact h
  · exact ⟨h.dn, h.same, fun s hs => by cases hs⟩
/-- The first calls of writes that fit. -/
theorem run_writes {n : Nat} {l : L} {k0 : Bytes} : ∀ (cs : List (Nat × Bytes)) (d : D), MidA n l k0 d → (∀ s ∈ cs, Fits n l (s.1, pad s.2)) →
    MidA n l k0 (runC d (cs.map fun s => C.wr s.1 s.2)).1 ∧ ((runC d (cs.map fun s => C.wr s.1 s.2)).2 = true → (runC d (cs.map fun s => C.wr s.1 s.2)).1.st = d.st ++ cs.map (fun s => (s.1, pad s.2)) ∧ (runC d (cs.map fun s => C.wr s.1 s.2)).1.kept = d.kept)
  | [], d, h, _ => ⟨h, fun _ => ⟨by simp [runC], rfl⟩⟩
  | s :: r, d, h, hs => by
    have h1 := h.write s.1 s.2 (hs s (by simp))
    by_cases he : d.writeE s.1 s.2 = 0
    · obtain ⟨e1, e2⟩ := h1.2 he
      have h2 := run_writes r _ h1.1 (fun x hx => hs x (by simp [hx]))
      have e : runC d ((s :: r).map fun s => C.wr s.1 s.2) = runC (d.write s.1 s.2) (r.map fun s => C.wr s.1 s.2) := by
        show (if d.writeE s.1 s.2 = 0 then _ else _) = _
        rw [if_pos he]
        rfl
      rw [e]
      refine ⟨h2.1, fun ht => ?_⟩
      obtain ⟨g1, g2⟩ := h2.2 ht
      exact ⟨by rw [g1, e1]; simp, by rw [g2, e2]⟩
    · have e : runC d ((s :: r).map fun s => C.wr s.1 s.2) = (d.write s.1 s.2, false) := by
        show (if d.writeE s.1 s.2 = 0 then _ else _) = _
        rw [if_neg he]
        rfl
      rw [e]
      exact ⟨h1.1, fun ht => by cases ht⟩
theorem runC_app : ∀ (a b : List C) (d : D), runC d (a ++ b) = if (runC d a).2 then runC (runC d a).1 b else ((runC d a).1, false)
  | [], b, d => by simp [runC]
  | c :: r, b, d => by
    show (if callE d c = 0 then runC (call d c) (r ++ b) else _) = _
    by_cases he : callE d c = 0
    · rw [if_pos he, runC_app r b]
      have : runC d (c :: r) = runC (call d c) r := by show (if _ then _ else _) = _; rw [if_pos he]
      rw [this]
    · rw [if_neg he]
      have : runC d (c :: r) = (call d c, false) := by show (if _ then _ else _) = _; rw [if_neg he]
      rw [this]
      simp
end Wl
end Go.Proofs.YtkmljbbnpjlehaaDoor
namespace Go.Proofs.YtkmljbbnpjlehaaDoor
set_option maxRecDepth 8000
namespace Wl
open Dk (D blk lay layAll layCut cutAt pad)

theorem pad_chunk_get (b : Bytes) (k q : Nat) (hq : q < 32) : (pad (chunk b k))[q]? = if 32 * k + q < b.length then b[32 * k + q]? else some 0 := by
  unfold Dk.pad chunk
  by_cases h : 32 * k + q < b.length
  · rw [if_pos h, List.getElem?_append_left (by rw [List.length_take, List.length_drop]; omega), List.getElem?_take, if_pos hq, List.getElem?_drop]
  · rw [if_neg h, List.getElem?_append_right (by rw [List.length_take, List.length_drop]; omega), List.getElem?_replicate, if_pos (by rw [List.length_take, List.length_drop]; omega)]
theorem pad_chunk_len (b : Bytes) (k : Nat) : (pad (chunk b k)).length = 32 := Dk.pad_len _ (by unfold chunk; rw [List.length_take]; omega)
def wl (at0 : Nat) (b : Bytes) (m : Nat) : List (Nat × Bytes) := (List.range m).map fun k => (at0 + k, chunk b k)
theorem writesC_wl (at0 : Nat) (b : Bytes) : writesC at0 b = (wl at0 b (count b)).map fun s => C.wr s.1 s.2 := by
  unfold writesC wl
  rw [List.map_map]
  rfl
theorem wl_succ (at0 : Nat) (b : Bytes) (m : Nat) : wl at0 b (m + 1) = wl at0 b m ++ [(at0 + m, chunk b m)] := by
  unfold wl
  rw [List.range_succ, List.map_append]
  rfl
theorem wl_get (b : Bytes) (at0 N : Nat) (kept : Bytes) (hk : kept.length = 32 * N) : ∀ m, at0 + m ≤ N →
    (layAll kept ((wl at0 b m).map fun s => (s.1, pad s.2))).length = 32 * N ∧ ∀ x, (layAll kept ((wl at0 b m).map fun s => (s.1, pad s.2)))[x]? = if 32 * at0 ≤ x ∧ x < 32 * (at0 + m) then (if x - 32 * at0 < b.length then b[x - 32 * at0]? else some 0) else kept[x]?
  | 0, _ => ⟨hk, fun x => by rw [if_neg (by omega)]; rfl⟩
  | m + 1, hm => by
    obtain ⟨h1, h2⟩ := wl_get b at0 N kept hk m (by omega)
    have h3 : (pad (chunk b m)).length = 32 := pad_chunk_len b m
    rw [wl_succ, List.map_append, List.map_cons, List.map_nil, Dk.layAll_snoc]
    refine ⟨Dk.lay_ok 32 h1 (by show at0 + m < N; omega) h3, fun x => ?_⟩
    rw [Dk.lay_get h1 (by show at0 + m < N; omega) h3 (Nat.le_refl _), h2]
    by_cases hx : 32 * (at0 + m) ≤ x ∧ x < 32 * (at0 + m) + 32
    · rw [if_pos hx, if_pos (by omega), pad_chunk_get _ _ _ (by omega)]
      have e : 32 * m + (x - 32 * (at0 + m)) = x - 32 * at0 := by omega
      rw [e]
    · rw [if_neg hx]
      by_cases hy : 32 * at0 ≤ x ∧ x < 32 * (at0 + m)
      · rw [if_pos hy, if_pos (show 32 * at0 ≤ x ∧ x < 32 * (at0 + (m + 1)) by omega)]
      · rw [if_neg hy, if_neg (show ¬ (32 * at0 ≤ x ∧ x < 32 * (at0 + (m + 1))) by omega)]

/-- What is to lie in an area, and from which of its blocks on it is written. -/
structure Plan (n : Nat) (l : L) (area frm : Nat) (fr : Bytes) : Prop where
  a1 : area ≤ 1
  la1 : l.area ≤ 1
  n4 : 4 ≤ n
  room : fr.length ≤ areaBytes n
  used : l.fr.length ≤ areaBytes n
  from_ : 32 * frm ≤ fr.length
  ahead : frm = 0 ∨ (area = l.area ∧ 32 * frm ≤ l.fr.length)
  pre : area = l.area → l.fr <+: fr
theorem start_two {n a : Nat} : 2 ≤ start n a := by unfold start; omega
theorem start_le {n a : Nat} (h4 : 4 ≤ n) (ha : a ≤ 1) : start n a + areaBlocks n ≤ n := by
  unfold start areaBlocks
  have : a = 0 ∨ a = 1 := by omega
  rcases this with rfl | rfl <;> omega
theorem Plan.fits {n : Nat} {l : L} {area frm : Nat} {fr : Bytes} (h : Plan n l area frm fr) : ∀ s ∈ wl (start n area + frm) (fr.drop (32 * frm)) (count (fr.drop (32 * frm))), Fits n l (s.1, pad s.2) := by
  intro s hs
  unfold wl at hs
  obtain ⟨k, hk, rfl⟩ := List.mem_map.1 hs
  rw [List.mem_range] at hk
  unfold count at hk
  rw [List.length_drop] at hk
  have hr := h.room
  have hf := h.from_
  have hst := start_le (n := n) h.n4 h.a1
  have h2 := start_two (n := n) (a := area)
  unfold areaBytes at hr
  refine ⟨?_, ?_, pad_chunk_len _ _, fun q hq p hp e => ?_⟩
  · show 2 ≤ start n area + frm + k
    omega
  · show start n area + frm + k < n
    omega
  · show (pad (chunk (fr.drop (32 * frm)) k))[q]? = l.fr[p]?
    have e' : 32 * (start n area + frm + k) + q = 32 * start n l.area + p := e
    have hu := h.used
    unfold areaBytes at hu
    have hal : area = l.area := by
      by_cases hne : area = l.area
      · exact hne
      · exfalso
        have ha := h.a1
        have hb := h.la1
        unfold start at e'
        have : (area = 0 ∧ l.area = 1) ∨ (area = 1 ∧ l.area = 0) := by omega
        rcases this with ⟨e1, e2⟩ | ⟨e1, e2⟩ <;> rw [e1, e2] at e' <;> omega
    obtain ⟨t, ht⟩ := h.pre hal
    rw [hal] at e'
    have hlen : fr.length = l.fr.length + t.length := by rw [← ht, List.length_append]
    rw [pad_chunk_get _ _ _ hq, List.length_drop, if_pos (by omega), List.getElem?_drop, show 32 * frm + (32 * k + q) = p by omega, ← ht, List.getElem?_append_left hp]
/-- Both heads and the old frames stand, and the new ones lie there. -/
def New (n : Nat) (l : L) (k0 : Bytes) (area : Nat) (fr : Bytes) (k1 : Bytes) : Prop := Same n l k0 k1 ∧ Lies n k1 area fr
theorem Plan.lies {n : Nat} {l : L} {area frm : Nat} {fr : Bytes} (h : Plan n l area frm fr) {k0 k : Bytes} (hs : Same n l k0 k) : Lies n (layAll k ((wl (start n area + frm) (fr.drop (32 * frm)) (count (fr.drop (32 * frm)))).map fun s => (s.1, pad s.2))) area fr := by
  intro q hq
  have hr := h.room
  have hf := h.from_
  have hst := start_le (n := n) h.n4 h.a1
  unfold areaBytes at hr
  rw [(wl_get (fr.drop (32 * frm)) (start n area + frm) n k hs.len _ (by unfold count; rw [List.length_drop]; omega)).2]
  by_cases hin : 32 * frm ≤ q
  · rw [if_pos (by unfold count; rw [List.length_drop]; omega), if_pos (by rw [List.length_drop]; omega), List.getElem?_drop]
    congr 1
    omega
  · rw [if_neg (by omega)]
    rcases h.ahead with h0 | ⟨hal, h32⟩
    · omega
    · obtain ⟨t, ht⟩ := h.pre hal
      rw [hal, hs.data q (by omega), ← ht, List.getElem?_append_left (by omega)]
/-- How far the calls came. -/
inductive Came (n : Nat) (l : L) (k0 : Bytes) (area : Nat) (fr : Bytes) (hd : Nat × Bytes) (r : D × Bool) : Prop
  | early (h2 : r.2 = false) (h : MidA n l k0 r.1)
  | torn (h2 : r.2 = false) (hn : r.1.n = n) (hk : New n l k0 area fr r.1.kept) (hs : r.1.st = [hd])
  | whole (h2 : r.2 = true) (hn : r.1.n = n) (k1 : Bytes) (hk : New n l k0 area fr k1) (hd : r.1.kept = lay k1 hd 32) (hs : r.1.st = [])
theorem Plan.came {n : Nat} {l : L} {area frm : Nat} {fr : Bytes} (h : Plan n l area frm fr) (g : Nat) {d : D} (hd : MidA n l d.kept d) (hst : d.st = []) :
    Came n l d.kept area fr (g % 2, pad (head g area fr.length)) (runC d (keepC n area frm fr g)) := by
  unfold keepC
  rw [writesC_wl, runC_app]
  obtain ⟨h1, h2⟩ := run_writes _ d hd h.fits
  obtain ⟨r1, hr1⟩ : ∃ r, r = runC d ((wl (start n area + frm) (fr.drop (32 * frm)) (count (fr.drop (32 * frm)))).map fun s => C.wr s.1 s.2) := ⟨_, rfl⟩
  rw [← hr1] at h1 h2 ⊢
  clear hr1
  cases hb : r1.2 with
  | false => exact .early (by simp) (by simpa using h1)
  | true =>
    obtain ⟨e1, e2⟩ := h2 hb
    rw [hst, List.nil_append] at e1
    simp only [↓reduceIte]
    show Came n l d.kept area fr _ (if r1.1.syncE = 0 then _ else _)
    by_cases hs1 : r1.1.syncE = 0
    · rw [if_pos hs1]
      have hbad : r1.1.bad = false := by
        unfold D.syncE at hs1
        cases hx : r1.1.bad with
        | false => rfl
        | true => rw [hx] at hs1; simp at hs1
      have hm2 := h1.sync
      have hsy : r1.1.sync.kept = layAll r1.1.kept r1.1.st ∧ r1.1.sync.st = [] := by unfold D.sync; rw [hbad]; exact ⟨rfl, rfl⟩
      have hnew : New n l d.kept area fr r1.1.sync.kept := ⟨hm2.same, by rw [hsy.1, e1, e2]; exact h.lies hd.same⟩
      obtain ⟨d2, hd2⟩ : ∃ d2, d2 = r1.1.sync := ⟨_, rfl⟩
      show Came n l d.kept area fr _ (runC (call r1.1 C.sync) _)
      have ec : call r1.1 C.sync = r1.1.sync := rfl
      rw [ec, ← hd2]
      rw [← hd2] at hm2 hsy hnew
      have hg2 : ¬ (((g % 2 : Nat) : Int) < 0 ∨ (d2.n : Int) ≤ ((g % 2 : Nat) : Int)) := by have := hm2.dn; have := h.n4; omega
      have hl8 : ¬ 32 < (head g area fr.length).length := by rw [head_len]; omega
      show Came n l d.kept area fr _ (if d2.writeE ((g % 2 : Nat) : Int) (head g area fr.length) = 0 then _ else _)
      by_cases hw : d2.writeE ((g % 2 : Nat) : Int) (head g area fr.length) = 0
      · rw [if_pos hw]
        have hbad2 : d2.bad = false := by
          unfold D.writeE at hw
          rw [if_neg hg2, if_neg hl8] at hw
          cases hx : d2.bad with
          | false => rfl
          | true => rw [hx] at hw; simp at hw
        have ew : d2.write ((g % 2 : Nat) : Int) (head g area fr.length) = { d2.asked with st := d2.st ++ [(g % 2, pad (head g area fr.length))] } := by
          unfold D.write
          rw [if_neg hg2, if_neg hl8, hbad2, Int.toNat_natCast]
          rfl
        have ec2 : call d2 (C.wr (g % 2) (head g area fr.length)) = d2.write ((g % 2 : Nat) : Int) (head g area fr.length) := rfl
        rw [ec2, ew, hsy.2, List.nil_append]
        obtain ⟨d3, hd3⟩ : ∃ d3 : D, d3 = { d2.asked with st := [(g % 2, pad (head g area fr.length))] } := ⟨_, rfl⟩
        rw [← hd3]
        have k3 : d3.kept = d2.kept := by rw [hd3]; exact Dk.asked_kept d2
        have n3 : d3.n = n := by rw [hd3]; exact (Dk.asked_n d2).trans hm2.dn
        have s3 : d3.st = [(g % 2, pad (head g area fr.length))] := by rw [hd3]
        show Came n l d.kept area fr _ (if d3.syncE = 0 then _ else _)
        by_cases hs3 : d3.syncE = 0
        · rw [if_pos hs3]
          have hbad3 : d3.bad = false := by
            unfold D.syncE at hs3
            cases hx : d3.bad with
            | false => rfl
            | true => rw [hx] at hs3; simp at hs3
          have hsy3 : d3.sync.kept = layAll d3.kept d3.st ∧ d3.sync.st = [] ∧ d3.sync.n = d3.n := by unfold D.sync; rw [hbad3]; exact ⟨rfl, rfl, Dk.asked_n d3⟩
          refine .whole rfl (hsy3.2.2.trans n3) d2.kept hnew ?_ hsy3.2.1
          show d3.sync.kept = _
          rw [hsy3.1, s3, k3]
          rfl
        · rw [if_neg hs3]
          have hbad3 : d3.bad = true := by
            unfold D.syncE at hs3
            cases hx : d3.bad with
            | true => rfl
            | false => rw [hx] at hs3; simp at hs3
          have hsy3 : d3.sync = d3.asked := by unfold D.sync; rw [hbad3]; rfl
          have ec3 : call d3 C.sync = d3.asked := hsy3
          rw [ec3]
          exact .torn rfl ((Dk.asked_n d3).trans n3) (by show New n l d.kept area fr d3.asked.kept; rw [Dk.asked_kept, k3]; exact hnew) ((Dk.asked_st d3).trans s3)
      · rw [if_neg hw]
        have hbad2 : d2.bad = true := by
          unfold D.writeE at hw
          rw [if_neg hg2, if_neg hl8] at hw
          cases hx : d2.bad with
          | true => rfl
          | false => rw [hx] at hw; simp at hw
        have ew : d2.write ((g % 2 : Nat) : Int) (head g area fr.length) = d2.asked := by
          unfold D.write
          rw [if_neg hg2, if_neg hl8, hbad2]
          rfl
        exact .early rfl (by show MidA n l d.kept (d2.write ((g % 2 : Nat) : Int) (head g area fr.length)); rw [ew]; exact hm2.asked)
    · rw [if_neg hs1]
      exact .early rfl h1.sync
end Wl
end Go.Proofs.YtkmljbbnpjlehaaDoor
