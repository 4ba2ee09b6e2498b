/- What an Append or a Replace of the log leaves on a disk, and what is found there behind a crash. No condition. What a log's disk keeps between two calls, whatever crashes came: what is found is the log. No condition. -/
import Derived.Test.YtfceljbmdcbciaaDoorMg10
namespace Go.Proofs.YtfceljbmdcbciaaDoor
set_option maxRecDepth 8000
namespace Wl
open Dk (D blk lay layAll layCut cutAt pad)

theorem pad_chunk_get (b : Bytes) (k q : Nat) (hq : q < 32) : (pad (chunk b k))[q]? = if 32 * k + q < b.length then b[32 * k + q]? else some 0 := by
  unfold Dk.pad chunk
  by_cases h : 32 * k + q < b.length
  · rw [if_pos h, List.getElem?_append_left (by rw [List.length_take, List.length_drop]; omega), List.getElem?_take, if_pos hq, List.getElem?_drop]
  · rw [if_neg h, List.getElem?_append_right (by rw [List.length_take, List.length_drop]; omega), List.getElem?_replicate, if_pos (by rw [List.length_take, List.length_drop]; omega)]
theorem pad_chunk_len (b : Bytes) (k : Nat) : (pad (chunk b k)).length = 32 := Dk.pad_len _ (by unfold chunk; rw [List.length_take]; omega)
def wl (at0 : Nat) (b : Bytes) (m : Nat) : List (Nat × Bytes) := (List.range m).map fun k => (at0 + k, chunk b k)
theorem writesC_wl (at0 : Nat) (b : Bytes) : writesC at0 b = (wl at0 b (count b)).map fun s => C.wr s.1 s.2 := by
  unfold writesC wl
  rw [List.map_map]
  rfl
theorem wl_succ (at0 : Nat) (b : Bytes) (m : Nat) : wl at0 b (m + 1) = wl at0 b m ++ [(at0 + m, chunk b m)] := by
  unfold wl
  rw [List.range_succ, List.map_append]
  rfl
theorem wl_get (b : Bytes) (at0 N : Nat) (kept : Bytes) (hk : kept.length = 32 * N) : ∀ m, at0 + m ≤ N →
    (layAll kept ((wl at0 b m).map fun s => (s.1, pad s.2))).length = 32 * N ∧ ∀ x, (layAll kept ((wl at0 b m).map fun s => (s.1, pad s.2)))[x]? = if 32 * at0 ≤ x ∧ x < 32 * (at0 + m) then (if x - 32 * at0 < b.length then b[x - 32 * at0]? else some 0) else kept[x]?
  | 0, _ => ⟨hk, fun x => by rw [if_neg (by omega)]; rfl⟩
  | m + 1, hm => by
    obtain ⟨h1, h2⟩ := wl_get b at0 N kept hk m (by omega)
    have h3 : (pad (chunk b m)).length = 32 := pad_chunk_len b m
    rw [wl_succ, List.map_append, List.map_cons, List.map_nil, Dk.layAll_snoc]
    refine ⟨Dk.lay_ok 32 h1 (by show at0 + m < N; omega) h3, fun x => ?_⟩
    rw [Dk.lay_get h1 (by show at0 + m < N; omega) h3 (Nat.le_refl _), h2]
    by_cases hx : 32 * (at0 + m) ≤ x ∧ x < 32 * (at0 + m) + 32
    · rw [if_pos hx, if_pos (by omega), pad_chunk_get _ _ _ (by omega)]
      have e : 32 * m + (x - 32 * (at0 + m)) = x - 32 * at0 := by omega
      rw [e]
    · rw [if_neg hx]
      by_cases hy : 32 * at0 ≤ x ∧ x < 32 * (at0 + m)
      · rw [if_pos hy, if_pos (show 32 * at0 ≤ x ∧ x < 32 * (at0 + (m + 1)) by omega)]
      · rw [if_neg hy, if_neg (show ¬ (32 * at0 ≤ x ∧ x < 32 * (at0 + (m + 1))) by omega)]

/-- What is to lie in an area, and from which of its blocks on it is written. -/
structure Plan (n : Nat) (l : L) (area frm : Nat) (fr : Bytes) : Prop where
  a1 : area ≤ 1
  la1 : l.area ≤ 1
  n4 : 4 ≤ n
  room : fr.length ≤ areaBytes n
  used : l.fr.length ≤ areaBytes n
  from_ : 32 * frm ≤ fr.length
  ahead : frm = 0 ∨ (area = l.area ∧ 32 * frm ≤ l.fr.length)
  pre : area = l.area → l.fr <+: fr
theorem start_two {n a : Nat} : 2 ≤ start n a := by unfold start; omega
theorem start_le {n a : Nat} (h4 : 4 ≤ n) (ha : a ≤ 1) : start n a + areaBlocks n ≤ n := by
  unfold start areaBlocks
  have : a = 0 ∨ a = 1 := by omega
  rcases this with rfl | rfl <;> omega
theorem Plan.fits {n : Nat} {l : L} {area frm : Nat} {fr : Bytes} (h : Plan n l area frm fr) : ∀ s ∈ wl (start n area + frm) (fr.drop (32 * frm)) (count (fr.drop (32 * frm))), Fits n l (s.1, pad s.2) := by
  intro s hs
  unfold wl at hs
  obtain ⟨k, hk, rfl⟩ := List.mem_map.1 hs
  rw [List.mem_range] at hk
  unfold count at hk
  rw [List.length_drop] at hk
  have hr := h.room
  have hf := h.from_
  have hst := start_le (n := n) h.n4 h.a1
  have h2 := start_two (n := n) (a := area)
  unfold areaBytes at hr
  refine ⟨?_, ?_, pad_chunk_len _ _, fun q hq p hp e => ?_⟩
  · show 2 ≤ start n area + frm + k
    omega
  · show start n area + frm + k < n
    omega
  · show (pad (chunk (fr.drop (32 * frm)) k))[q]? = l.fr[p]?
    have e' : 32 * (start n area + frm + k) + q = 32 * start n l.area + p := e
    have hu := h.used
    unfold areaBytes at hu
    have hal : area = l.area := by
      by_cases hne : area = l.area
      · exact hne
      · exfalso
        have ha := h.a1
        have hb := h.la1
        unfold start at e'
        have : (area = 0 ∧ l.area = 1) ∨ (area = 1 ∧ l.area = 0) := by omega
        rcases this with ⟨e1, e2⟩ | ⟨e1, e2⟩ <;> rw [e1, e2] at e' <;> omega
    obtain ⟨t, ht⟩ := h.pre hal
    rw [hal] at e'
    have hlen : fr.length = l.fr.length + t.length := by rw [← ht, List.length_append]
    rw [pad_chunk_get _ _ _ hq, List.length_drop, if_pos (by omega), List.getElem?_drop, show 32 * frm + (32 * k + q) = p by omega, ← ht, List.getElem?_append_left hp]
/-- Both heads and the old frames stand, and the new ones lie there. -/
def New (n : Nat) (l : L) (k0 : Bytes) (area : Nat) (fr : Bytes) (k1 : Bytes) : Prop := Same n l k0 k1 ∧ Lies n k1 area fr
theorem Plan.lies {n : Nat} {l : L} {area frm : Nat} {fr : Bytes} (h : Plan n l area frm fr) {k0 k : Bytes} (hs : Same n l k0 k) : Lies n (layAll k ((wl (start n area + frm) (fr.drop (32 * frm)) (count (fr.drop (32 * frm)))).map fun s => (s.1, pad s.2))) area fr := by
  intro q hq
  have hr := h.room
  have hf := h.from_
  have hst := start_le (n := n) h.n4 h.a1
  unfold areaBytes at hr
  rw [(wl_get (fr.drop (32 * frm)) (start n area + frm) n k hs.len _ (by unfold count; rw [List.length_drop]; omega)).2]
  by_cases hin : 32 * frm ≤ q
  · rw [if_pos (by unfold count; rw [List.length_drop]; omega), if_pos (by rw [List.length_drop]; omega), List.getElem?_drop]
    congr 1
    omega
  · rw [if_neg (by omega)]
    rcases h.ahead with h0 | ⟨hal, h32⟩
    · omega
    · obtain ⟨t, ht⟩ := h.pre hal
      rw [hal, hs.data q (by omega), ← ht, List.getElem?_append_left (by omega)]
/-- How far the calls came. -/
inductive Came (n : Nat) (l : L) (k0 : Bytes) (area : Nat) (fr : Bytes) (hd : Nat × Bytes) (r : D × Bool) : Prop
  | early (h2 : r.2 = false) (h : MidA n l k0 r.1)
  | torn (h2 : r.2 = false) (hn : r.1.n = n) (hk : New n l k0 area fr r.1.kept) (hs : r.1.st = [hd])
  | whole (h2 : r.2 = true) (hn : r.1.n = n) (k1 : Bytes) (hk : New n l k0 area fr k1) (hd : r.1.kept = lay k1 hd 32) (hs : r.1.st = [])
theorem Plan.came {n : Nat} {l : L} {area frm : Nat} {fr : Bytes} (h : Plan n l area frm fr) (g : Nat) {d : D} (hd : MidA n l d.kept d) (hst : d.st = []) :
    Came n l d.kept area fr (g % 2, pad (head g area fr.length)) (runC d (keepC n area frm fr g)) := by
  unfold keepC
  rw [writesC_wl, runC_app]
  obtain ⟨h1, h2⟩ := run_writes _ d hd h.fits
  obtain ⟨r1, hr1⟩ : ∃ r, r = runC d ((wl (start n area + frm) (fr.drop (32 * frm)) (count (fr.drop (32 * frm)))).map fun s => C.wr s.1 s.2) := ⟨_, rfl⟩
  rw [← hr1] at h1 h2 ⊢
  clear hr1
  cases hb : r1.2 with
  | false => exact .early (by simp) (by simpa using h1)
  | true =>
    obtain ⟨e1, e2⟩ := h2 hb
    rw [hst, List.nil_append] at e1
    simp only [↓reduceIte]
    show Came n l d.kept area fr _ (if r1.1.syncE = 0 then _ else _)
    by_cases hs1 : r1.1.syncE = 0
    · rw [if_pos hs1]
      have hbad : r1.1.bad = false := by
        unfold D.syncE at hs1
        cases hx : r1.1.bad with
        | false => rfl
        | true => rw [hx] at hs1; simp at hs1
      have hm2 := h1.sync
      have hsy : r1.1.sync.kept = layAll r1.1.kept r1.1.st ∧ r1.1.sync.st = [] := by unfold D.sync; rw [hbad]; exact ⟨rfl, rfl⟩
      have hnew : New n l d.kept area fr r1.1.sync.kept := ⟨hm2.same, by rw [hsy.1, e1, e2]; exact h.lies hd.same⟩
      obtain ⟨d2, hd2⟩ : ∃ d2, d2 = r1.1.sync := ⟨_, rfl⟩
      show Came n l d.kept area fr _ (runC (call r1.1 C.sync) _)
      have ec : call r1.1 C.sync = r1.1.sync := rfl
      rw [ec, ← hd2]
      rw [← hd2] at hm2 hsy hnew
      have hg2 : ¬ (((g % 2 : Nat) : Int) < 0 ∨ (d2.n : Int) ≤ ((g % 2 : Nat) : Int)) := by have := hm2.dn; have := h.n4; omega
      have hl8 : ¬ 32 < (head g area fr.length).length := by rw [head_len]; omega
      show Came n l d.kept area fr _ (if d2.writeE ((g % 2 : Nat) : Int) (head g area fr.length) = 0 then _ else _)
      by_cases hw : d2.writeE ((g % 2 : Nat) : Int) (head g area fr.length) = 0
      · rw [if_pos hw]
        have hbad2 : d2.bad = false := by
          unfold D.writeE at hw
          rw [if_neg hg2, if_neg hl8] at hw
          cases hx : d2.bad with
          | false => rfl
          | true => rw [hx] at hw; simp at hw
        have ew : d2.write ((g % 2 : Nat) : Int) (head g area fr.length) = { d2.asked with st := d2.st ++ [(g % 2, pad (head g area fr.length))] } := by
          unfold D.write
          rw [if_neg hg2, if_neg hl8, hbad2, Int.toNat_natCast]
          rfl
        have ec2 : call d2 (C.wr (g % 2) (head g area fr.length)) = d2.write ((g % 2 : Nat) : Int) (head g area fr.length) := rfl
        rw [ec2, ew, hsy.2, List.nil_append]
        obtain ⟨d3, hd3⟩ : ∃ d3 : D, d3 = { d2.asked with st := [(g % 2, pad (head g area fr.length))] } := ⟨_, rfl⟩
        rw [← hd3]
        have k3 : d3.kept = d2.kept := by rw [hd3]; exact Dk.asked_kept d2
        have n3 : d3.n = n := by rw [hd3]; exact (Dk.asked_n d2).trans hm2.dn
        have s3 : d3.st = [(g % 2, pad (head g area fr.length))] := by rw [hd3]
        show Came n l d.kept area fr _ (if d3.syncE = 0 then _ else _)
        by_cases hs3 : d3.syncE = 0
        · rw [if_pos hs3]
          have hbad3 : d3.bad = false := by
            unfold D.syncE at hs3
            cases hx : d3.bad with
            | false => rfl
            | true => rw [hx] at hs3; simp at hs3
          have hsy3 : d3.sync.kept = layAll d3.kept d3.st ∧ d3.sync.st = [] ∧ d3.sync.n = d3.n := by unfold D.sync; rw [hbad3]; exact ⟨rfl, rfl, Dk.asked_n d3⟩
          refine .whole rfl (hsy3.2.2.trans n3) d2.kept hnew ?_ hsy3.2.1
          show d3.sync.kept = _
          rw [hsy3.1, s3, k3]
          rfl
        · rw [if_neg hs3]
          have hbad3 : d3.bad = true := by
            unfold D.syncE at hs3
            cases hx : d3.bad with
            | true => rfl
            | false => rw [hx] at hs3; simp at hs3
          have hsy3 : d3.sync = d3.asked := by unfold D.sync; rw [hbad3]; rfl
          have ec3 : call d3 C.sync = d3.asked := hsy3
          rw [ec3]
          exact .torn rfl ((Dk.asked_n d3).trans n3) (by show New n l d.kept area fr d3.asked.kept; rw [Dk.asked_kept, k3]; exact hnew) ((Dk.asked_st d3).trans s3)
      · rw [if_neg hw]
        have hbad2 : d2.bad = true := by
          unfold D.writeE at hw
          rw [if_neg hg2, if_neg hl8] at hw
          cases hx : d2.bad with
          | true => rfl
          | false => rw [hx] at hw; simp at hw
        have ew : d2.write ((g % 2 : Nat) : Int) (head g area fr.length) = d2.asked := by
          unfold D.write
          rw [if_neg hg2, if_neg hl8, hbad2]
          rfl
        exact .early rfl (by show MidA n l d.kept (d2.write ((g % 2 : Nat) : Int) (head g area fr.length)); rw [ew]; exact hm2.asked)
    · rw [if_neg hs1]
      exact .early rfl h1.sync
end Wl
end Go.Proofs.YtfceljbmdcbciaaDoor
namespace Go.Proofs.YtfceljbmdcbciaaDoor
set_option maxRecDepth 8000
namespace Wl
open Dk (D blk lay layAll layCut cutAt pad)

def h8 (kept : Bytes) (i : Nat) : Bytes := (blk kept i).take 8
theorem h8_get {kept : Bytes} {n i q : Nat} (_hk : kept.length = 32 * n) : (h8 kept i)[q]? = if q < 8 then kept[32 * i + q]? else none := by
  unfold h8
  rw [List.getElem?_take]
  split
  · rw [Dk.blk_get, if_pos (by omega)]
  · rfl
theorem h8_len {kept : Bytes} {n i : Nat} (hk : kept.length = 32 * n) (hi : i < n) : (h8 kept i).length = 8 := by
  unfold h8
  rw [List.length_take, Dk.blk_len hk hi]
  rfl
/-- Of the other head: nothing, or the head ahead of this one, as far as it is not torn. -/
def OldOf (g : Nat) (O : Bytes) : Prop := O = zero8 ∨ ∃ a u, 1 ≤ g ∧ a ≤ 1 ∧ u < 8192 ∧ O = head (g - 1) a u
theorem OldOf.old {g : Nat} {O : Bytes} (h : OldOf g O) : Old O := by
  rcases h with rfl | ⟨a, u, _, _, _, rfl⟩
  · exact ⟨rfl, .inl rfl⟩
  · exact ⟨rfl, .inr (head_right _ _ _)⟩
/-- c: how much of a head's block a crash lays. -/
structure Inv (c n : Nat) (kept : Bytes) (l : L) : Prop where
  len : kept.length = 32 * n
  n4 : 4 ≤ n
  n512 : n ≤ 512
  gen : l.gen ≤ 262143
  a1 : l.area ≤ 1
  used : l.fr.length ≤ areaBytes n
  recs : (Fr.scan l.fr).2 = l.fr.length
  data : Lies n kept l.area l.fr
  own : if l.gen = 0 then l.area = 0 ∧ l.fr = [] ∧ h8 kept 0 = zero8 else h8 kept (l.gen % 2) = head l.gen l.area l.fr.length
  oth : ∃ O, OldOf l.gen O ∧ (h8 kept ((l.gen + 1) % 2)).drop c = O.drop c ∧ (right (h8 kept ((l.gen + 1) % 2)) → h8 kept ((l.gen + 1) % 2) = O)
theorem areaBytes_lt {n : Nat} (h : n ≤ 512) : areaBytes n < 8192 := by unfold areaBytes areaBlocks; omega
theorem Same.h8 {n : Nat} {l : L} {k0 k : Bytes} (h : Same n l k0 k) (hk : k0.length = 32 * n) {i : Nat} (hi : i < 2) : Wl.h8 k i = Wl.h8 k0 i := by
  apply List.ext_getElem?
  intro q
  rw [h8_get h.len, h8_get hk]
  split
  · exact h.heads _ (by omega)
  · rfl
theorem Inv.same {c n : Nat} {k0 k : Bytes} {l : L} (h : Inv c n k0 l) (hs : Same n l k0 k) : Inv c n k l where
  len := hs.len
  n4 := h.n4
  n512 := h.n512
  gen := h.gen
  a1 := h.a1
  used := h.used
  recs := h.recs
  data := hs.data
  own := by
    rw [hs.h8 h.len (by omega), hs.h8 h.len (Nat.mod_lt _ (by decide))]
    exact h.own
  oth := by
    rw [hs.h8 h.len (Nat.mod_lt _ (by decide))]
    exact h.oth
theorem Inv.start {c n : Nat} {kept : Bytes} {l : L} (h : Inv c n kept l) {d : D} (hn : d.n = n) (hk : d.kept = kept) (hs : d.st = []) : MidA n l kept d := ⟨hn, ⟨by rw [hk]; exact h.len, fun q _ => by rw [hk], by rw [hk]; exact h.data⟩, fun s hs' => by rw [hs] at hs'; cases hs'⟩
/-- A head that is laid, as far as it comes. -/
theorem h8_lay {k : Bytes} {n i c : Nat} (hk : k.length = 32 * n) (hi : i < n) {N : Bytes} (hN : N.length = 8) (hc : c ≤ 32) : Wl.h8 (lay k (i, pad N) c) i = N.take c ++ (Wl.h8 k i).drop c := by
  have hp : (pad N).length = 32 := Dk.pad_len _ (by omega)
  have hl := h8_len hk hi
  apply List.ext_getElem?
  intro q
  rw [h8_get (Dk.lay_ok c hk hi hp)]
  by_cases hq : q < 8
  · rw [if_pos hq, Dk.lay_get hk hi hp hc]
    by_cases hqc : q < c
    · rw [if_pos (by dsimp only; omega), List.getElem?_append_left (by rw [List.length_take]; omega), List.getElem?_take, if_pos hqc]
      show (pad N)[32 * i + q - 32 * i]? = _
      unfold Dk.pad
      rw [show 32 * i + q - 32 * i = q by omega, List.getElem?_append_left (by omega)]
    · rw [if_neg (by dsimp only; omega), List.getElem?_append_right (by rw [List.length_take]; omega), List.getElem?_drop, List.length_take, h8_get hk, if_pos (by omega)]
      congr 1
      omega
  · rw [if_neg hq, List.getElem?_eq_none (by rw [List.length_append, List.length_take, List.length_drop]; omega)]
theorem h8_lay_other {k : Bytes} {n i j c : Nat} (hk : k.length = 32 * n) (hi : i < n) {x : Bytes} (hx : x.length = 32) (hc : c ≤ 32) (hij : i ≠ j) : Wl.h8 (lay k (i, x) c) j = Wl.h8 k j := by
  unfold Wl.h8
  rw [Dk.blk_other hk hi hx hc hij]
theorem lies_lay {k : Bytes} {n i c a : Nat} (hk : k.length = 32 * n) (hi : i < 2) (h4 : 4 ≤ n) {x : Bytes} (hx : x.length = 32) (hc : c ≤ 32) {l : Bytes} (h : Lies n k a l) : Lies n (lay k (i, x) c) a l := fun q hq => by
  have := start_two (n := n) (a := a)
  rw [Dk.lay_get hk (by dsimp only; omega) hx hc, if_neg (by dsimp only; omega)]
  exact h q hq
theorem mod2 (g : Nat) : (g + 1) % 2 ≠ g % 2 := by omega
theorem mod22 (g : Nat) : (g + 1 + 1) % 2 = g % 2 := by omega
/-- The new log, where its head is laid whole. -/
theorem Inv.new {c n : Nat} {k0 k1 : Bytes} {l : L} (h : Inv c n k0 l) {area : Nat} {fr : Bytes} (hg : l.gen < 262143) (ha : area ≤ 1) (hr : fr.length ≤ areaBytes n) (hrec : (Fr.scan fr).2 = fr.length) (hn : New n l k0 area fr k1)
    {cc : Nat} (hcc : cc ≤ 32) (hw : Wl.h8 (lay k1 ((l.gen + 1) % 2, pad (head (l.gen + 1) area fr.length)) cc) ((l.gen + 1) % 2) = head (l.gen + 1) area fr.length) :
    Inv c n (lay k1 ((l.gen + 1) % 2, pad (head (l.gen + 1) area fr.length)) cc) ⟨l.gen + 1, area, fr⟩ := by
  have hlt : (l.gen + 1) % 2 < 2 := Nat.mod_lt _ (by decide)
  have hp : (pad (head (l.gen + 1) area fr.length)).length = 32 := Dk.pad_len _ (by rw [head_len]; omega)
  have h4 := h.n4
  refine ⟨Dk.lay_ok cc hn.1.len (by dsimp only; omega) hp, h4, h.n512, by show l.gen + 1 ≤ 262143; omega, ha, hr, hrec, lies_lay hn.1.len hlt h4 hp hcc hn.2, ?_, ?_⟩
  · rw [if_neg (by show l.gen + 1 ≠ 0; omega)]
    exact hw
  · show ∃ O, OldOf (l.gen + 1) O ∧ (Wl.h8 _ ((l.gen + 1 + 1) % 2)).drop c = O.drop c ∧ (right (Wl.h8 _ ((l.gen + 1 + 1) % 2)) → Wl.h8 _ ((l.gen + 1 + 1) % 2) = O)
    rw [mod22, h8_lay_other hn.1.len (by omega) hp hcc (mod2 _), hn.1.h8 h.len (Nat.mod_lt _ (by decide))]
    refine ⟨_, ?_, rfl, fun _ => rfl⟩
    have ho := h.own
    by_cases h0 : l.gen = 0
    · rw [if_pos h0] at ho
      rw [h0, ho.2.2]
      exact .inl rfl
    · rw [if_neg h0] at ho
      rw [ho]
      exact .inr ⟨l.area, l.fr.length, by omega, h.a1, by have := h.used; have := areaBytes_lt h.n512; omega, rfl⟩
/-- A head that is torn: the old log, or the new one. -/
theorem Inv.torn {c n : Nat} {k0 k1 : Bytes} {l : L} (h : Inv c n k0 l) (hc : c ≤ 32) {area : Nat} {fr : Bytes} (hg : l.gen < 262143) (ha : area ≤ 1) (hr : fr.length ≤ areaBytes n) (hrec : (Fr.scan fr).2 = fr.length) (hn : New n l k0 area fr k1) :
    Inv c n (lay k1 ((l.gen + 1) % 2, pad (head (l.gen + 1) area fr.length)) c) l ∨ Inv c n (lay k1 ((l.gen + 1) % 2, pad (head (l.gen + 1) area fr.length)) c) ⟨l.gen + 1, area, fr⟩ := by
  have hlt : (l.gen + 1) % 2 < 2 := Nat.mod_lt _ (by decide)
  have hp : (pad (head (l.gen + 1) area fr.length)).length = 32 := Dk.pad_len _ (by rw [head_len]; omega)
  have h4 := h.n4
  obtain ⟨O, hO, hd, hri⟩ := h.oth
  have hx := h8_lay hn.1.len (by omega) (head_len (l.gen + 1) area fr.length) hc (i := (l.gen + 1) % 2)
  rw [hn.1.h8 h.len hlt, hd] at hx
  have hmix : (Wl.h8 (lay k1 ((l.gen + 1) % 2, pad (head (l.gen + 1) area fr.length)) c) ((l.gen + 1) % 2)).drop c = O.drop c := by
    rw [hx, List.drop_append, List.drop_eq_nil_of_le (by rw [List.length_take]; omega), List.nil_append, List.length_take, head_len, List.drop_drop]
    by_cases h8 : c ≤ 8
    · congr 1; omega
    · rw [List.drop_eq_nil_of_le (by rw [hO.old.1]; omega), List.drop_eq_nil_of_le (by rw [hO.old.1]; omega)]
  by_cases hright : right (Wl.h8 (lay k1 ((l.gen + 1) % 2, pad (head (l.gen + 1) area fr.length)) c) ((l.gen + 1) % 2))
  · have ht := Wl.torn (N := head (l.gen + 1) area fr.length) c rfl (head_right _ _ _) hO.old (by rw [← hx]; exact hright)
    rcases ht with ht | ht
    · exact .inr (h.new hg ha hr hrec hn hc (hx.trans ht))
    · refine .inl ⟨Dk.lay_ok c hn.1.len (by dsimp only; omega) hp, h4, h.n512, h.gen, h.a1, h.used, h.recs, lies_lay hn.1.len hlt h4 hp hc hn.1.data, ?_, O, hO, hmix, fun _ => hx.trans ht⟩
      rw [h8_lay_other hn.1.len (by omega) hp hc (mod2 _), hn.1.h8 h.len (Nat.mod_lt _ (by decide))]
      have ho := h.own
      by_cases h0 : l.gen = 0
      · rw [if_pos h0] at ho ⊢
        refine ⟨ho.1, ho.2.1, ?_⟩
        rw [h8_lay_other hn.1.len (show (l.gen + 1) % 2 < n by omega) hp hc (show (l.gen + 1) % 2 ≠ 0 by omega), hn.1.h8 h.len (by decide)]
        exact ho.2.2
      · rw [if_neg h0] at ho ⊢
        exact ho
  · refine .inl ⟨Dk.lay_ok c hn.1.len (by dsimp only; omega) hp, h4, h.n512, h.gen, h.a1, h.used, h.recs, lies_lay hn.1.len hlt h4 hp hc hn.1.data, ?_, O, hO, hmix, fun hr' => absurd hr' hright⟩
    rw [h8_lay_other hn.1.len (by omega) hp hc (mod2 _), hn.1.h8 h.len (Nat.mod_lt _ (by decide))]
    have ho := h.own
    by_cases h0 : l.gen = 0
    · rw [if_pos h0] at ho ⊢
      refine ⟨ho.1, ho.2.1, ?_⟩
      rw [h8_lay_other hn.1.len (show (l.gen + 1) % 2 < n by omega) hp hc (show (l.gen + 1) % 2 ≠ 0 by omega), hn.1.h8 h.len (by decide)]
      exact ho.2.2
    · rw [if_neg h0] at ho ⊢
      exact ho
/-- What is found is the log. -/
theorem right_h8 {b : Bytes} (h : 8 ≤ b.length) : right b ↔ right (b.take 8) := by
  unfold right
  have e1 : num b = num (b.take 8) := by rw [num_take b (by omega), num_take (b.take 8) (by rw [List.length_take]; omega), List.take_take]; rfl
  have e2 : (b.drop 4).take 4 = ((b.take 8).drop 4).take 4 := by rw [List.drop_take, List.take_take]; rfl
  rw [e1, e2]
theorem hdOf_h8 {b : Bytes} (h : 8 ≤ b.length) : hdOf b = hdOf (b.take 8) := by
  unfold hdOf
  have e1 : num (b.drop 4) = num ((b.take 8).drop 4) := by
    rw [num_take (b.drop 4) (by rw [List.length_drop]; omega), num_take ((b.take 8).drop 4) (by rw [List.length_drop, List.length_take]; omega), List.drop_take, List.take_take]
    rfl
  rw [e1]
theorem readH_h8 {n i : Nat} {b : Bytes} (h : 8 ≤ b.length) : readH n i b = readH n i (b.take 8) := by
  unfold readH
  rw [hdOf_h8 h]
  have := right_h8 h
  by_cases hr : right b
  · have hr' := this.1 hr
    simp only [hr, hr', true_and]
  · have hr' : ¬ right (b.take 8) := fun x => hr (this.2 x)
    simp only [hr, hr', false_and, if_false]
theorem newest_two {n : Nat} {kept : Bytes} {p : Nat} (hp : p < 2) {h : Hd} (h1 : readH n p (blk kept p) = some h) (h2 : ∀ g, readH n (1 - p) (blk kept (1 - p)) = some g → g.gen < h.gen) : newest n kept = h := by
  unfold newest
  have : p = 0 ∨ p = 1 := by omega
  rcases this with rfl | rfl
  · rw [h1]
    cases hg : readH n 1 (blk kept 1) with
    | none => rfl
    | some g =>
      have := h2 g hg
      dsimp only
      rw [if_neg (by omega)]
  · rw [h1]
    cases hg : readH n 0 (blk kept 0) with
    | none => rfl
    | some g =>
      have := h2 g hg
      dsimp only
      rw [if_pos (by omega)]
theorem Inv.newest {c n : Nat} {kept : Bytes} {l : L} (h : Inv c n kept l) : Wl.newest n kept = ⟨l.gen, l.area, l.fr.length⟩ := by
  have h4 := h.n4
  have hb : ∀ i, i < 2 → 8 ≤ (blk kept i).length := fun i hi => by rw [Dk.blk_len h.len (by omega)]; omega
  have hu : l.fr.length < 8192 := by have := h.used; have := areaBytes_lt h.n512; omega
  obtain ⟨O, hO, _, hri⟩ := h.oth
  have ho := h.own
  have hother : ∀ g, readH n ((l.gen + 1) % 2) (blk kept ((l.gen + 1) % 2)) = some g → 1 ≤ l.gen ∧ g.gen = l.gen - 1 := by
    intro g hg
    rw [readH_h8 (hb _ (Nat.mod_lt _ (by decide)))] at hg
    have hg' : readH n ((l.gen + 1) % 2) (Wl.h8 kept ((l.gen + 1) % 2)) = some g := hg
    unfold readH at hg'
    split at hg'
    · rename_i hc
      have e := hri hc.1
      injection hg' with hg'
      rw [e] at hg' hc
      rcases hO with rfl | ⟨a, u, g1, ga, gu, rfl⟩
      · exact absurd hc.1 zero_not
      · rw [hdOf_head (by have := h.gen; omega) ga gu] at hg'
        subst hg'
        exact ⟨g1, rfl⟩
    · cases hg'
  by_cases h0 : l.gen = 0
  · rw [if_pos h0] at ho
    have e0 : readH n 0 (blk kept 0) = none := by
      rw [readH_h8 (hb 0 (by decide))]
      show readH n 0 (Wl.h8 kept 0) = none
      unfold readH
      rw [ho.2.2, if_neg (fun hc => zero_not hc.1)]
    have e1 : readH n 1 (blk kept 1) = none := by
      cases hg : readH n 1 (blk kept 1) with
      | none => rfl
      | some g =>
        have := hother g (by rw [h0]; exact hg)
        omega
    unfold Wl.newest
    rw [e0, e1, h0, ho.1, ho.2.1]
    rfl
  · rw [if_neg h0] at ho
    refine newest_two (p := l.gen % 2) (Nat.mod_lt _ (by decide)) ?_ ?_
    · rw [readH_h8 (hb _ (Nat.mod_lt _ (by decide)))]
      show readH n (l.gen % 2) (Wl.h8 kept (l.gen % 2)) = _
      unfold readH
      rw [ho, hdOf_head h.gen h.a1 hu, if_pos ⟨head_right _ _ _, rfl, h.used⟩]
    · intro g hg
      have e : 1 - l.gen % 2 = (l.gen + 1) % 2 := by omega
      rw [e] at hg
      have := hother g hg
      show g.gen < l.gen
      omega
theorem Inv.openK {c n : Nat} {kept : Bytes} {l : L} (h : Inv c n kept l) : Wl.openK n kept = .ok l := by
  have h4 := h.n4
  unfold Wl.openK
  rw [if_neg (by omega), h.newest]
  dsimp only
  rw [h.data.bytes, if_pos h.recs]
/-- A new disk. -/
theorem inv_new (c : Nat) {n : Nat} (h4 : 4 ≤ n) (h5 : n ≤ 512) : Inv c n (List.replicate (32 * n) 0) ⟨0, 0, []⟩ := by
  have hz : ∀ i, i < 2 → Wl.h8 (List.replicate (32 * n) 0) i = zero8 := by
    intro i hi
    apply List.ext_getElem?
    intro q
    rw [h8_get (n := n) (by simp)]
    unfold zero8
    rw [List.getElem?_replicate, List.getElem?_replicate]
    split
    · rw [if_pos (by omega)]
    · rfl
  refine ⟨by simp, h4, h5, by simp, by simp, by simp, rfl, fun q hq => absurd hq (by simp), ?_, zero8, .inl rfl, ?_, ?_⟩
  · rw [if_pos rfl]
    exact ⟨rfl, rfl, hz 0 (by decide)⟩
  · rw [hz _ (Nat.mod_lt _ (by decide))]
  · intro _
    exact hz _ (Nat.mod_lt _ (by decide))
end Wl
end Go.Proofs.YtfceljbmdcbciaaDoor
