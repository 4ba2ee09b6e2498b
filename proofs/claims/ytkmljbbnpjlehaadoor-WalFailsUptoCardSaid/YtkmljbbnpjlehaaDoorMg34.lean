/- What Records tells lies in blocks of its own. Condition: the table of sums reads as its text lays it. A new disk and a log on it, nothing done; the row of what is sure. Condition of the first: the table of sums reads as its text lays it. -/
import Derived.Test.YtkmljbbnpjlehaaDoorMg25
import Derived.Test.YtkmljbbnpjlehaaDoorMg33
namespace Go.Proofs.YtkmljbbnpjlehaaDoor
set_option maxRecDepth 8000
open Go.RowKit

/-- The records that a call tells: a list in blocks of its own. -/
def RecOwn (l : List (List UInt8)) (w : World) (e : Ending) (w' : World) : Prop :=
  ∃ A c m cs, e = .returned (.slice A m c) ∧ LRow w.heap.size w' A m c l cs ∧ Below w.heap.size w w'
/-- What is done beside a row's blocks leaves it. -/
theorem LRow.beside {base : Nat} {w w' : World} {A : Option Addr} {n c : Nat} {l : List (List UInt8)} {cs : List Value} (h : LRow base w A n c l cs) (hf : ∀ b, base ≤ b → b < w.heap.size → w'.heap[b]? = w.heap[b]?) (hz : w.heap.size ≤ w'.heap.size) : LRow base w' A n c l cs := by
  refine ⟨h.len, ⟨h.row.1, ?_⟩, fun k hk => ?_⟩
  · rcases h.row.2 with h1 | ⟨g, cap, cur, hv, hb, hg, hr⟩
    · exact .inl h1
    · exact .inr ⟨g, cap, cur, hv, hb, by rw [hf g hb (Array.getElem?_eq_some_iff.1 hg).1]; exact hg, hr⟩
  · obtain ⟨Ak, ck, e1, e2, e3⟩ := h.el k hk
    exact ⟨Ak, ck, e1, cells_block e2 (fun b hb => hf b (e3 b hb).1 (e3 b hb).2.1) hz, fun b hb => ⟨(e3 b hb).1, Nat.lt_of_lt_of_le (e3 b hb).2.1 hz, (e3 b hb).2.2⟩⟩

set_option maxHeartbeats 3200000 in
theorem records_own (w : World) (m : Lm) (l : Wl.L) (hH : Hs w) (h : LAt w m l) (hl : l.fr.length ≤ 16777216) :
    Calls Tryd.prog 33 #[.pointer (some ⟨m.L, 0, none⟩)] w (RecOwn (Fr.scan l.fr).1 w) := by
  obtain ⟨_, _, _, c3⟩ := h.c
  have HSC := Lib.hid (scan_own m.A m.c l.fr.length l.fr w hH rfl h.fr h.cap.1 h.cap.2 hl)
  have HRO := Lib.hid (rows_of l.fr)
  obtain ⟨rs, hrs⟩ : ∃ rs, rs = (Fr.scan l.fr).1 := ⟨_, rfl⟩
  unfold ToldOwn at HSC
  rw [← hrs] at HSC HRO ⊢
  obtain ⟨sc, hsc⟩ : ∃ sc, sc = (Fr.scan l.fr).2 := ⟨_, rfl⟩
  rw [← hsc] at HSC
  obtain ⟨u, hu⟩ : ∃ u, u = l.fr.length := ⟨_, rfl⟩
  rw [← hu] at HSC HRO c3 hl
  clear hrs hsc h hH hu
  go_enter Tryd.func33, Tryd.ntmps33
  go_wp2_with fail
  refine HSC.out.mono ?_
  rintro _ w2 ⟨A, c, n, cs, rfl, hlr, hb2⟩
  have hcap := hlr.cap
  have hnl := hlr.len
  have hn16 : n ≤ 16777216 := by have := HRO.out.1; omega
  have HB2 := Lib.hid hb2
  have HLR := Lib.hid hlr
  have HNL := Lib.hid hnl
  clear hlr hb2 HSC hnl
  go_wp2_with fail
  go_loopw [17] (fun iv wr => ∃ (k : Nat) (cs' : List Value), k ≤ n ∧ iv = .int .i64 (k : Int) ∧ LRow w.heap.size wr A n c rs cs' ∧ Below w.heap.size w wr) (fun iv _ => n - (intOf iv).toNat)
  case atStart => exact ⟨0, cs, Nat.zero_le _, rfl, HLR.out, HB2.out⟩
  case round =>
    obtain ⟨k, cs', hk, rfl, hlr, hb⟩ := hrel
    by_cases hlt : k < n
    · have hkI : (k : Int) < (n : Int) := by omega
      have hk0 : (0 : Int) ≤ (k : Int) := by omega
      have hkr : k < rs.length := by have := HNL.out; omega
      obtain ⟨Ak, ck, e1, e2, e3⟩ := hlr.el k hkr
      have hx := HRO.out.2 rs[k] (List.getElem_mem hkr)
      obtain ⟨g, hg⟩ : ∃ g, A = some ⟨g, 0, none⟩ := by
        rcases hlr.row.2 with ⟨hv, h0⟩ | ⟨g, cap, cur, hv, _⟩
        · omega
        · injection hv with hv _ _
          exact ⟨g, hv⟩
      subst hg
      have hgl : g < wr.heap.size := (hlr.own g rfl).2
      have HGB := Lib.hid (hlr.own g rfl).1
      obtain ⟨xb, xo, hA', hxlt, hxc⟩ := e2 (by omega)
      have hcell : wr.cell? ⟨g, k, none⟩ = some (.slice Ak rs[k].length ck) := by
        have := hlr.row.cells (g := g) rfl k _ e1
        rwa [Addr.add_mid, Nat.zero_add] at this
      subst hA'
      have HPUT := Lib.hid (fun (w' : World) (hb' : Below wr.heap.size wr w') (A' : Option Addr) (c' : Nat) (hx' : BCells w' w'.heap.size A' rs[k]) (hf : ∀ b ∈ blkOf A', w.heap.size ≤ b ∧ b < w'.heap.size ∧ b ∉ blkOf (some ⟨g, 0, none⟩)) => LRow.put (hlr.next hb') hkr (c' := c') hx' hf rfl)
      have HFR := Lib.hid (fun (w' : World) (hb' : Below wr.heap.size wr w') => (hlr.next hb').row.frozenAt k)
      have HCL := Lib.hid (cloneB_any wr ⟨xb, xo, none⟩ ck rs[k].length rs[k] e2 rfl (by omega))
      obtain ⟨xl, hxl⟩ : ∃ xl, xl = rs[k].length := ⟨_, rfl⟩
      rw [← hxl] at hcell HCL
      have HXL := Lib.hid hxl
      have HB := Lib.hid hb
      have hxlp : 0 < xl := by omega
      clear e1 e2 e3 hlr hb hxc hx hxl
      go_wp2_with fail
      refine HCL.out.mono ?_
      rintro _ w3 ⟨A3, c3', rfl, hrow3, hb3⟩
      have hce3 : w3.cell? ⟨g, k, none⟩ = some (.slice (some ⟨xb, xo, none⟩) xl ck) := (hb3.cell (p := ⟨g, k, none⟩) hgl).trans hcell
      have hfr3 := HFR.out w3 hb3
      have hform := hrow3
      have HP3 := Lib.hid (HPUT.out w3 hb3 A3 c3' (row_cells hrow3) (fun b hb' => by
        cases A3 with
        | none => simp [blkOf] at hb'
        | some ad =>
          simp [blkOf] at hb'
          subst hb'
          have h5 := World.ownsRow.lt hrow3 ad.block rfl
          have := HB.out.size
          refine ⟨by omega, h5.2, ?_⟩
          simp [blkOf]
          omega))
      have HB3 := Lib.hid (HB.out.trans (hb3.mono HB.out.size))
      rw [← HXL.out] at HP3
      clear hrow3 hform hb3 HCL HPUT HFR
      go_wp2_with fail
      go_roundw
      case rel => exact ⟨k + 1, _, by omega, by go_num, HP3.out, HB3.out.setCell (p := ⟨g, k, none⟩) HGB.out _⟩
      case measure => simp [intOf]; omega
    · have hkI : ¬ (k : Int) < (n : Int) := by omega
      have HL := Lib.hid hlr
      have HB := Lib.hid hb
      clear hlr hb
      go_wp2_with fail
      go_ret
      exact ⟨A, c, n, _, rfl, HL.out, HB.out⟩
theorem records_zo {base : Nat} {S : List Nat} {w : World} {P L : Nat} {d : Dk.D} {l : Wl.L} (h : SZ base S w P L d l) (hH : Hs w) {c N : Nat} {kept : List UInt8} (hi : Wl.Inv c N kept l) : Calls Tryd.prog 33 #[.pointer (some ⟨L, 0, none⟩)] w (RecOwn (Wl.rds l) w) := by
  obtain ⟨F, h1, _, _⟩ := h
  have hu := hi.used
  have hul := Wl.areaBytes_lt hi.n512
  obtain ⟨m, rfl, _, hm⟩ := h1.at
  exact records_own w m l hH hm (by omega)
end Go.Proofs.YtkmljbbnpjlehaaDoor
namespace Go.Proofs.YtkmljbbnpjlehaaDoor
set_option maxRecDepth 8000
open Go.RowKit

theorem dk_new (n : Nat) (h : n ≤ 512) : (Dk.new (n : Int)).n = n ∧ (Dk.new (n : Int)).kept = List.replicate (32 * n) 0 ∧ (Dk.new (n : Int)).st = [] ∧ Wl.Fresh (Dk.new (n : Int)) := by
  have e : (min (max (n : Int) 0) 512).toNat = n := by omega
  refine ⟨e, ?_, rfl, by show (-1 : Int) < 0; decide, rfl⟩
  show List.replicate (32 * (min (max (n : Int) 0) 512).toNat) 0 = _
  rw [e]

set_option maxHeartbeats 800000 in
theorem walked_nil (w : World) (hH : Hs w) (n : Nat) (h4 : 4 ≤ n) (h30 : n ≤ 512) :
    Calls Tryd.prog 32 #[.int .i64 (n : Int), .slice none 0 0] w fun e w' => ∃ P L, e = .returned (.tuple #[.pointer (some ⟨P, 0, none⟩), .pointer (some ⟨L, 0, none⟩)]) ∧ SY (fun x => w.heap.size ≤ x ∧ x < w'.heap.size) w' P L (Dk.new (n : Int)) ⟨0, 0, []⟩ ∧ Below w.heap.size w w' := by
  obtain ⟨hn, hk, hst, _⟩ := dk_new n h30
  have hinv : Wl.Inv 0 n (Dk.new (n : Int)).kept ⟨0, 0, []⟩ := by rw [hk]; exact Wl.inv_new 0 h4 h30
  have HNEW := Lib.hid (new_any w (n : Int))
  obtain ⟨dn, hdn⟩ : ∃ dn, dn = Dk.new (n : Int) := ⟨_, rfl⟩
  rw [← hdn] at HNEW hinv hn hst ⊢
  have HH := Lib.hid hH
  have HI := Lib.hid hinv
  have HN := Lib.hid hn
  have HST := Lib.hid hst
  clear hinv hdn hH hn hst hk
  go_enter Tryd.func32, Tryd.ntmps32
  go_wp2_with fail
  refine HNEW.out.mono ?_
  intro e w1 hmade
  obtain ⟨P, rfl, hsd, hb1⟩ := hmade.sd
  have HOP := Lib.hid (walOpen_any w1 P dn (HH.out.next hb1) (hsd.base (Nat.zero_le _)) HST.out)
  rw [HN.out, HI.out.openK] at HOP
  have HSD := Lib.hid hsd
  have HB1 := Lib.hid hb1
  clear hsd hb1 hmade HNEW
  go_wp2_with fail
  refine HOP.out.mono ?_
  intro e w2 hop
  obtain ⟨L, rfl, hsy, hb2⟩ := sy_new HSD.out HB1.out hop
  have HSY := Lib.hid hsy
  have HB2 := Lib.hid hb2
  clear hsy hb2 hop HOP HSD HB1
  go_wp2_with fail
  go_loop [9] (fun i => i = .int .i64 0) (fun _ => 0)
  case atStart => rfl
  case round =>
    subst hrel
    go_wp2_with fail
    go_ret2
    exact ⟨P, L, rfl, HSY.out, HB2.out⟩

/-- The row of what is sure: the slices that a list holds, none of their blocks this row's. -/
structure SureR (bd base : Nat) (wr : World) (A : Option Addr) (m c : Nat) (l : List (List UInt8)) (cs : List Value) : Prop where
  len : l.length = m
  row : wr.ownsRow base 36 1 (.slice A m c) m cs
  el : ∀ k (hk : k < l.length), ∃ Ak ck, cs[k]? = some (.slice Ak l[k].length ck) ∧ BCells wr bd Ak l[k]
  bd : bd ≤ base
  sz : base ≤ wr.heap.size
theorem SureR.nil {bd base : Nat} {wr : World} (h1 : bd ≤ base) (h2 : base ≤ wr.heap.size) : SureR bd base wr none 0 0 [] [] := ⟨rfl, World.ownsRow_nil _ _ _ _, fun k h => absurd h (by simp), h1, h2⟩
section
variable {bd base : Nat} {wr w' : World} {A : Option Addr} {m c : Nat} {l : List (List UInt8)} {cs : List Value}
theorem SureR.lc (h : SureR bd base wr A m c l cs) : LC wr wr.heap.size A l := fun h0 => by
  have hz : bd ≤ wr.heap.size := Nat.le_trans h.bd h.sz
  obtain ⟨g, cap, hv, _, hlt⟩ := World.ownsRow.form h.row (by have := h.len; omega)
  injection hv with hA _ _
  subst hA
  refine ⟨g, 0, rfl, hlt, fun k hk => ?_⟩
  obtain ⟨Ak, ck, e1, e2⟩ := h.el k hk
  refine ⟨Ak, ck, ?_, e2.moreB hz⟩
  have := h.row.cells (g := g) rfl k _ e1
  rw [Addr.add_mid] at this
  exact this
theorem SureR.blk (h : SureR bd base wr A m c l cs) : ∀ x ∈ blkOf A, base ≤ x ∧ x < wr.heap.size := fun x hx => by
  cases A with
  | none => simp [blkOf] at hx
  | some ad =>
    simp only [blkOf, List.mem_singleton] at hx
    rw [hx]
    exact World.ownsRow.lt h.row ad.block rfl
theorem SureR.same (h : SureR bd base wr A m c l cs) (hs : SameX (blkOf A) wr w') (hb : Below base wr w') : SureR bd base w' A m c l cs := by
  refine ⟨h.len, ⟨h.row.1, ?_⟩, fun k hk => ?_, h.bd, Nat.le_trans h.sz hb.size⟩
  · rcases h.row.2 with h1 | ⟨g, cap, cur, hv, h2, hg, hr⟩
    · exact .inl h1
    · refine .inr ⟨g, cap, cur, hv, h2, ?_, hr⟩
      injection hv with hA _ _
      rw [hs g (by rw [hA]; simp [blkOf])]
      exact hg
  · obtain ⟨Ak, ck, e1, e2⟩ := h.el k hk
    exact ⟨Ak, ck, e1, e2.keepB hb h.bd⟩
theorem SureR.next (h : SureR bd base wr A m c l cs) (hb : Below wr.heap.size wr w') : SureR bd base w' A m c l cs :=
  h.same (fun x hx => hb.block x (h.blk x hx).2) (hb.mono h.sz)
theorem SureR.push {w9 : World} {g cap n9 : Nat} {As : Option Addr} {cs9 : Nat} {x : List UInt8} (h : SureR bd base wr A m c l cs) (hn : x.length = n9) (hx : BCells wr bd As x)
    (hown : w9.ownsRow base 36 1 (.slice (some ⟨g, 0, none⟩) (m + 1) cap) (m + 1) (cs ++ [.slice As n9 cs9])) (hgrow : wr.grownBy w9 (Value.slice A m c).ownBlock) :
    SureR bd base w9 (some ⟨g, 0, none⟩) (m + 1) cap (l ++ [x]) (cs ++ [.slice As n9 cs9]) ∧ Below base wr w9 := by
  subst hn
  have hb : Below base wr w9 := (Below.refl _ _).grown hgrow h.sz (fun k hk => (World.ownsRow.lt h.row k hk).1)
  have hl := h.len
  have hcs : cs.length = m := by have := h.row.1; omega
  refine ⟨⟨by rw [List.length_append, List.length_singleton, hl], hown, fun k hk => ?_, h.bd, Nat.le_trans h.sz hb.size⟩, hb⟩
  by_cases hkl : k < l.length
  · obtain ⟨Ak, ck, e1, e2⟩ := h.el k hkl
    refine ⟨Ak, ck, ?_, ?_⟩
    · rw [List.getElem?_append_left (by omega), e1, List.getElem_append_left hkl]
    · rw [List.getElem_append_left hkl]
      exact e2.keepB hb h.bd
  · have hke : k = l.length := by rw [List.length_append, List.length_singleton] at hk; omega
    subst hke
    refine ⟨As, cs9, ?_, ?_⟩
    · rw [List.getElem?_append_right (by omega)]
      simp [hl, hcs]
    · simp only [List.getElem_concat_length]
      exact hx.keepB hb h.bd
end
theorem SZ.grown {base : Nat} {w w9 : World} {P L : Nat} {d : Dk.D} {l : Wl.L} {A : Option Addr} {m c g : Nat} (h : SZ base (blkOf A) w P L d l) (hgrow : w.grownBy w9 (Value.slice A m c).ownBlock) (hat : (Value.slice A m c).ownBlock = some g ∨ g = w.heap.size) (hg : g < w9.heap.size) : SZ base (blkOf (some ⟨g, 0, none⟩)) w9 P L d l := by
  obtain ⟨F, h1, h2, h3⟩ := h
  have hz := hgrow.size
  have ho : OutP (fun x => x ∈ blkOf A) w w9 := ⟨hgrow.os, hgrow.tape, hgrow.output, hz, fun b hb hn => hgrow.block b hb (fun e => hn (by
    cases A with
    | none => simp [Value.ownBlock] at e
    | some ad =>
      simp only [Value.ownBlock, Option.some.injEq] at e
      simp [blkOf, e]))⟩
  refine ⟨F, h1.out ho (fun x hf hx => (h3 x hx).1 hf), fun x hx => ⟨(h2 x hx).1, Nat.lt_of_lt_of_le (h2 x hx).2 hz⟩, fun x hx => ?_⟩
  simp only [blkOf, List.mem_singleton] at hx
  subst hx
  refine ⟨?_, hg⟩
  rcases hat with h | h
  · cases A with
    | none => simp [Value.ownBlock] at h
    | some ad =>
      simp only [Value.ownBlock, Option.some.injEq] at h
      exact (h3 x (by simp [blkOf, h])).1
  · intro hf
    have := (h2 x hf).2
    omega
namespace Wl
open Dk (D)
theorem stopD_is (d : D) (q : Option Nat) : (stopD d q).kept = d.kept ∧ (stopD d q).n = d.n ∧ (stopD d q).st = d.st := by
  cases q with
  | none => exact ⟨rfl, rfl, rfl⟩
  | some s =>
    show (d.stop (s : Int)).kept = d.kept ∧ (d.stop (s : Int)).n = d.n ∧ (d.stop (s : Int)).st = d.st
    unfold Dk.D.stop
    by_cases hl : d.left = 0
    · rw [if_pos hl]
      exact ⟨rfl, rfl, rfl⟩
    · rw [if_neg hl]
      exact ⟨rfl, rfl, rfl⟩
theorem asked_st (d : D) : d.asked.st = d.st := by unfold Dk.D.asked; split <;> rfl
theorem call_st (d : D) (c : C) : (call d c).st.length ≤ d.st.length + 1 := by
  cases c with
  | wr i b =>
    show (d.write (i : Int) b).st.length ≤ _
    unfold Dk.D.write
    split
    · omega
    · split
      · omega
      · split
        · rw [asked_st]; omega
        · show (d.st ++ [_]).length ≤ _
          rw [List.length_append, List.length_singleton]
          omega
  | sync =>
    show d.sync.st.length ≤ _
    unfold Dk.D.sync
    split
    · rw [asked_st]; omega
    · exact Nat.zero_le _
theorem run_st : ∀ (cs : List C) (d : D), (runC d cs).1.st.length ≤ d.st.length + cs.length
  | [], d => Nat.le_refl _
  | c :: r, d => by
    have h := call_st d c
    have h2 := run_st r (call d c)
    show (if callE d c = 0 then runC (call d c) r else (call d c, false)).1.st.length ≤ d.st.length + (r.length + 1)
    split
    · omega
    · show (call d c).st.length ≤ _
      omega
theorem keep_st (d : D) (l : L) (a f : Nat) (fr : Bytes) (hn : d.n ≤ 512) : (keep d l a f fr).2.1.st.length ≤ d.st.length + 1000 := by
  unfold keep
  split
  · show d.st.length ≤ _
    omega
  · next hc =>
    have hl : fr.length < 8192 := Nat.lt_of_le_of_lt (Nat.le_of_not_lt fun h => hc (.inl h)) (areaBytes_lt hn)
    have h := run_st (keepC d.n a f fr (l.gen + 1)) d
    have hk : (keepC d.n a f fr (l.gen + 1)).length ≤ 1000 := by
      unfold keepC writesC count
      rw [List.length_append, List.length_map, List.length_range, List.length_drop]
      simp only [List.length_cons, List.length_nil]
      omega
    dsimp only
    split
    · show (runC d _).1.st.length ≤ _
      omega
    · show (runC d _).1.drop.st.length ≤ _
      unfold Dk.D.drop
      split
      · omega
      · exact Nat.zero_le _
theorem append_st (d : D) (l : L) (b : Bytes) (hn : d.n ≤ 512) : (append d l b).2.1.st.length ≤ d.st.length + 1000 := by
  unfold append
  split
  · show d.st.length ≤ _
    omega
  · exact keep_st _ _ _ _ _ hn
end Wl
/-- append(sure, x). -/
theorem sure_push {W : World} {ops : Array Oper} {rest : List Oper} {o : Oper} {a : Act} {Q : Exit → Act → World → Prop} (hw : Region.wanted o (yielded ops a.tmps) = true) (s x : Operand) (base B : Nat) (v u : Value) (n : Nat) (cs : List Value)
    (ho : o.op = .call { callee := .builtin .append, args := #[s, x], argTypes := #[37, 37] }) (hs : a.eval s = v) (hx : a.eval x = .slice (some ⟨B, 0, none⟩) 1 1)
    (hown : W.ownsRow base 36 1 v n cs) (hB : W.heap[B]? = some (.cells #[u] 36 (0, 0))) (hu : u.oneCell' = true) (hn : n ≤ 16777216) (hb : base ≤ W.heap.size)
    (hK : ∀ g cap W', W'.ownsRow base 36 1 (.slice (some ⟨g, 0, none⟩) (n + 1) cap) (n + 1) (cs ++ [u]) → W.grownBy W' v.ownBlock → (v.ownBlock = some g ∨ g = W.heap.size) → wpList Tryd.prog ops Q rest (a.put o.dst (.slice (some ⟨g, 0, none⟩) (n + 1) cap)) W') :
    wpList Tryd.prog ops Q (o :: rest) a W := by
  obtain ⟨i0, hi, hz0, hz1, hz2⟩ := info_parts Tryd.infoBytes
  refine BigFrame.wpList_want hw fun K hK' => ?_
  obtain ⟨g, cap, W', hr, h2, h3, h4, _⟩ := run_append_lies (P := Tryd.prog) W 37 o.type base 36 i0 _ 1 24 Tryd.underlying37 hi hz0 hz1 hz2 rfl (by omega) v n cs hown ⟨B, 0, none⟩ 1 1 [u] rfl (World.news_of_block (cs := #[u]) hB) (by simpa using hu) (by omega) (by unfold maxLen; omega) (by omega) hb W.heap.size rfl
  unfold Oper.wp execOp
  simp only [ho, resolve, invoke, builtin, Sem.run_bind, Sem.run_pure, Result.andThen_ok, List.map_toArray, List.map_cons, List.map_nil, hs, hx, hr]
  exact hK' _ _ (hK g cap W' h2 h3 h4)
end Go.Proofs.YtkmljbbnpjlehaaDoor
