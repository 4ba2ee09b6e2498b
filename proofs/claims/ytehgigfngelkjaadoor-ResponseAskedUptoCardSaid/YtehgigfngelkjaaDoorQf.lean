/- What package request's Parse answers, for any text. -/
import Derived.Test.YtehgigfngelkjaaDoorQe
namespace Go.Proofs.YtehgigfngelkjaaDoor
set_option maxRecDepth 8000
open Go.RowKit
namespace Rq

theorem heads_err : ∀ (k : Nat) (r : List UInt8) (n : Nat), Req.heads k r = .error n → n ≠ 0
  | k, r, n, h => by
    rw [Req.heads] at h
    split at h
    · cases h; decide
    · split at h
      · cases h
      · split at h
        · cases h; decide
        · split at h
          · cases h; decide
          · rename_i k _ q _
            cases hh : Req.heads k _ with
            | error e =>
              rw [hh] at h
              cases h
              exact heads_err k _ _ hh
            | ok p => rw [hh] at h; cases h
theorem first_err {l : List UInt8} {n : Nat} (h : Req.first l = .error n) : n ≠ 0 := by
  unfold Req.first at h
  split at h
  · split at h
    · split at h
      · cases h
      · cases h; decide
    · cases h; decide
  · cases h; decide
theorem header_len {l : List UInt8} {q : Pct.PairL} (h : Req.header l = some q) : q.1.length ≤ l.length ∧ q.2.length ≤ l.length := by
  obtain ⟨a, b, f, hcut⟩ : ∃ a b f, Pct.cutAt 58 l = (a, b, f) := ⟨_, _, _, rfl⟩
  have hlen := cutAt_len 58 l
  rw [hcut] at hlen
  simp only at hlen
  have := trim_len b
  rw [header_def hcut] at h
  split at h
  · cases h; exact ⟨by simp only; omega, by simp only; omega⟩
  · cases h
theorem heads_len : ∀ (k : Nat) (r : List UInt8) (hs : List Pct.PairL) (b : List UInt8), Req.heads k r = .ok (hs, b) → hs.length ≤ k ∧ b.length ≤ r.length ∧ ∀ q ∈ hs, q.1.length ≤ r.length ∧ q.2.length ≤ r.length
  | k, r, hs, b, h => by
    rw [Req.heads] at h
    split at h
    · cases h
    · rename_i l r' hl
      have hlen := Req.line_len hl
      split at h
      · cases h
        exact ⟨by simp, by omega, fun q hq => by cases hq⟩
      · split at h
        · cases h
        · split at h
          · cases h
          · rename_i k _ q hq
            cases hh : Req.heads k r' with
            | error e => rw [hh] at h; cases h
            | ok p =>
              rw [hh] at h
              obtain ⟨hs', b'⟩ := p
              cases h
              obtain ⟨i1, i2, i3⟩ := heads_len k r' hs' b' hh
              have hq' := header_len hq
              refine ⟨by simp; omega, by simp only; omega, fun x hx => ?_⟩
              rcases List.mem_cons.1 hx with rfl | hx
              · exact ⟨by omega, by omega⟩
              · have := i3 x hx
                exact ⟨by omega, by omega⟩
theorem hdrV_len {N : Nat} (nm : List UInt8) : ∀ (l : List Pct.PairL), (∀ q ∈ l, q.2.length ≤ N) → (Req.hdrV nm l).length ≤ N
  | [], _ => by simp [Req.hdrV]
  | q :: l, h => by
    unfold Req.hdrV
    split
    · exact h q (by simp)
    · exact hdrV_len nm l (fun x hx => h x (by simp [hx]))

theorem readFirst_ok (l m t : List UInt8) (w : World) (he : EnvR w) (hs : l.length ≤ 1073741824) (h : Req.first l = .ok (m, t)) :
    Calls Tryd.prog 43 #[.string (S l)] w fun e w' => e = .returned (.tuple #[.string (S m), .string (S t), .int .i64 0]) ∧ Below w.heap.size w w' :=
  (readFirst_any l w he hs).mono fun e w' ⟨h1, h2⟩ => ⟨by rw [h1, h]; rfl, h2⟩
theorem readFirst_err (l : List UInt8) (n : Nat) (w : World) (he : EnvR w) (hs : l.length ≤ 1073741824) (h : Req.first l = .error n) :
    Calls Tryd.prog 43 #[.string (S l)] w fun e w' => e = .returned (.tuple #[.string ⟨#[]⟩, .string ⟨#[]⟩, .int .i64 n]) ∧ Below w.heap.size w w' :=
  (readFirst_any l w he hs).mono fun e w' ⟨h1, h2⟩ => ⟨by rw [h1, h]; rfl, h2⟩
theorem readHeaders_ok (l : List UInt8) (hs' : List Pct.PairL) (b : List UInt8) (w : World) (he : EnvR w) (hs : l.length ≤ 1073741824) (h : Req.heads 32 l = .ok (hs', b)) :
    Calls Tryd.prog 44 #[.string (S l)] w fun e w' => ∃ v, e = .returned (.tuple #[v, .string (S b), .int .i64 0]) ∧ PRow w.heap.size w' v hs' ∧ Below w.heap.size w w' :=
  (readHeaders_any l w he hs).mono fun e w' hp => by rw [h] at hp; exact hp
theorem readHeaders_err (l : List UInt8) (n : Nat) (w : World) (he : EnvR w) (hs : l.length ≤ 1073741824) (h : Req.heads 32 l = .error n) :
    Calls Tryd.prog 44 #[.string (S l)] w fun e w' => e = .returned (.tuple #[.slice none 0 0, .string ⟨#[]⟩, .int .i64 n]) ∧ Below w.heap.size w w' :=
  (readHeaders_any l w he hs).mono fun e w' hp => by rw [h] at hp; exact hp

theorem far4 {w : World} {g0 g i : Nat} (h : g0 ≠ g) (a b c d : Value) : ((((w.setCell ⟨g0, 0, none⟩ a).setCell ⟨g0, 1, none⟩ b).setCell ⟨g0, 2, none⟩ c).setCell ⟨g0, 3, none⟩ d).cell? ⟨g, i, none⟩ = w.cell? ⟨g, i, none⟩ := by
  rw [World.cell?_setCell_far _ _ _ _ h, World.cell?_setCell_far _ _ _ _ h, World.cell?_setCell_far _ _ _ _ h, World.cell?_setCell_far _ _ _ _ h]
/-- The cells of the call's own pairs stay, whatever is put into a block below base. -/
theorem _root_.Go.Proofs.YtehgigfngelkjaaDoor.PRow.at {base : Nat} {w : World} {v : Value} {l : List Pct.PairL} (h : PRow base w v l) : ∃ A cap, v = .slice A l.length cap ∧ l.length ≤ cap ∧ ∀ g0, g0 < base → ∀ w1, Below w.heap.size w w1 → ∀ a b c d, PCells ((((w1.setCell ⟨g0, 0, none⟩ a).setCell ⟨g0, 1, none⟩ b).setCell ⟨g0, 2, none⟩ c).setCell ⟨g0, 3, none⟩ d) w.heap.size A l := by
  rcases h.2 with ⟨rfl, hn⟩ | ⟨g, cap, cur, rfl, hbase, hg, hr⟩
  · exact ⟨none, 0, by rw [hn], by omega, fun _ _ _ _ _ _ _ _ h0 => absurd h0 (by omega)⟩
  · have hlt : g < w.heap.size := by
      rcases Nat.lt_or_ge g w.heap.size with hlt | hge
      · exact hlt
      · rw [Array.getElem?_eq_none hge] at hg; cases hg
    refine ⟨_, cap, rfl, hr.1, fun g0 hg0 w1 hb1 _ _ _ _ _ => ⟨g, 0, rfl, hlt, fun k hk => ?_⟩⟩
    have hc := World.ownsRow.cells h (g := g) rfl
    have h2 := cells2_at l k hk
    have a1 := hc _ _ h2.1
    have a2 := hc _ _ h2.2
    rw [Addr.add_mid] at a1 a2
    have hne : g0 ≠ g := by omega
    exact ⟨(far4 hne _ _ _ _).trans ((hb1.cell (p := ⟨g, 0 + k * 2, none⟩) hlt).trans a1), (far4 hne _ _ _ _).trans ((hb1.cell (p := ⟨g, 0 + k * 2 + 1, none⟩) hlt).trans (by rw [← Nat.add_assoc] at a2; exact a2))⟩

def rV (m t : List UInt8) (A : Option Addr) (n cap : Nat) (b : List UInt8) : Value := .agg #[.string (S m), .string (S t), .slice A n cap, .string (S b)]
def zeroR : Value := .agg #[.string ⟨#[]⟩, .string ⟨#[]⟩, .slice none 0 0, .string ⟨#[]⟩]
def ReqPost (w : World) (r : Except Nat Req.R) (e : Ending) (w' : World) : Prop :=
  match r with
  | .ok q => ∃ A cap, e = .returned (.tuple #[rV q.method q.target A q.heads.length cap q.body, .int .i64 0]) ∧ PCells w' w'.heap.size A q.heads ∧ Below w.heap.size w w' ∧ q.heads.length ≤ cap
  | .error n => e = .returned (.tuple #[zeroR, .int .i64 n]) ∧ Below w.heap.size w w'
theorem reqPost_err {w w' : World} {r : Except Nat Req.R} {n : Nat} (h : r = .error n) (hb : Below w.heap.size w w') : ReqPost w r (.returned (.tuple #[zeroR, .int .i64 n])) w' := by rw [h]; exact ⟨rfl, hb⟩
theorem reqPost_ok {w w' : World} {r : Except Nat Req.R} {q : Req.R} {A : Option Addr} {cap : Nat} (h : r = .ok q) (hc : PCells w' w'.heap.size A q.heads) (hb : Below w.heap.size w w') (hcap : q.heads.length ≤ cap) : ReqPost w r (.returned (.tuple #[rV q.method q.target A q.heads.length cap q.body, .int .i64 0])) w' := by rw [h]; exact ⟨A, cap, rfl, hc, hb, hcap⟩
theorem below_put4 {w w1 : World} (h : Below w.heap.size w w1) (a b c d : Value) : Below w.heap.size w ((((w1.setCell ⟨w.heap.size, 0, none⟩ a).setCell ⟨w.heap.size, 1, none⟩ b).setCell ⟨w.heap.size, 2, none⟩ c).setCell ⟨w.heap.size, 3, none⟩ d) :=
  (((h.setCell (Nat.le_refl _) _).setCell (Nat.le_refl _) _).setCell (Nat.le_refl _) _).setCell (Nat.le_refl _) _

/-- The answer's block, as it is laid first, in a world behind the call's begin. -/
structure AtR (w w' : World) : Prop where
  env : EnvR w'
  blk : BlkR w' w.heap.size [] [] (.slice none 0 0) []
  below : Below w.heap.size w w'
  lt : w.heap.size < w'.heap.size
theorem AtR.new {w : World} (he : EnvR w) : AtR w (w.alloc (.cells #[.string ⟨#[]⟩, .string ⟨#[]⟩, .slice none 0 0, .string ⟨#[]⟩] 50)) :=
  ⟨he.next ((Below.refl _ _).alloc (Nat.le_refl _) _), BlkR.new w [] [] [] _, (Below.refl _ _).alloc (Nat.le_refl _) _, by simp⟩
theorem AtR.next {w w1 w2 : World} (h : AtR w w1) (hb : Below w1.heap.size w1 w2) : AtR w w2 :=
  ⟨h.env.next hb, h.blk.below hb h.lt, h.below.trans (hb.mono h.below.size), Nat.lt_of_lt_of_le h.lt hb.size⟩
theorem AtR.cells {w w1 : World} (h : AtR w w1) : w1.cell? ⟨w.heap.size, 0, none⟩ = some (.string ⟨#[]⟩) ∧ w1.cell? ⟨w.heap.size, 1, none⟩ = some (.string ⟨#[]⟩) ∧ w1.cell? ⟨w.heap.size, 2, none⟩ = some (.slice none 0 0) ∧ w1.cell? ⟨w.heap.size, 3, none⟩ = some (.string ⟨#[]⟩) ∧ w1.frozen? ⟨w.heap.size, 0, none⟩ = false ∧ w1.frozen? ⟨w.heap.size, 1, none⟩ = false ∧ w1.frozen? ⟨w.heap.size, 2, none⟩ = false ∧ w1.frozen? ⟨w.heap.size, 3, none⟩ = false :=
  ⟨h.blk.c0, h.blk.c1, h.blk.c2, h.blk.c3, h.blk.frozen 0, h.blk.frozen 1, h.blk.frozen 2, h.blk.frozen 3⟩

section
variable {l a r m t b : List UInt8} {hs : List Pct.PairL} {n : Nat}
theorem parse_1 (h : 4096 < l.length) : Req.parse l = .error 2 := by unfold Req.parse; rw [if_pos h]
theorem parse_2 (h : ¬ 4096 < l.length) (h1 : Req.line l = none) : Req.parse l = .error 3 := by unfold Req.parse; rw [if_neg h, h1]
theorem parse_3 (h : ¬ 4096 < l.length) (h1 : Req.line l = some (a, r)) (h2 : Req.first a = .error n) : Req.parse l = .error n := by unfold Req.parse; rw [if_neg h, h1]; simp only [h2]
theorem parse_4 (h : ¬ 4096 < l.length) (h1 : Req.line l = some (a, r)) (h2 : Req.first a = .ok (m, t)) (h3 : Req.heads 32 r = .error n) : Req.parse l = .error n := by unfold Req.parse; rw [if_neg h, h1]; simp only [h2, h3]
theorem parse_5 (h : ¬ 4096 < l.length) (h1 : Req.line l = some (a, r)) (h2 : Req.first a = .ok (m, t)) (h3 : Req.heads 32 r = .ok (hs, b)) (h4 : Req.bodyLen hs = none) : Req.parse l = .error 18 := by unfold Req.parse; rw [if_neg h, h1]; simp only [h2, h3, h4]
theorem parse_6 (h : ¬ 4096 < l.length) (h1 : Req.line l = some (a, r)) (h2 : Req.first a = .ok (m, t)) (h3 : Req.heads 32 r = .ok (hs, b)) (h4 : Req.bodyLen hs = some n) : Req.parse l = if b.length < n then .error 3 else if n < b.length then .error 9 else .ok ⟨m, t, hs, b⟩ := by unfold Req.parse; rw [if_neg h, h1]; simp only [h2, h3, h4]
end

set_option maxHeartbeats 1600000 in
theorem reqParse_any (l : List UInt8) (w : World) (he : EnvR w) :
    Calls Tryd.prog 28 #[.string (S l)] w (ReqPost w (Req.parse l)) := by
  have hz : (S l).size = l.length := rfl
  have h0 := AtR.new he
  clear he
  by_cases hlong : 4096 < l.length
  · have HR := Lib.hid (parse_1 hlong)
    have hlong' : 4096 < (S l).size := hlong
    obtain ⟨c0, c1, c2, c3, f0, f1, f2, f3⟩ := h0.cells
    go_enter Tryd.func28, Tryd.ntmps28
    go_wp2
    exact bodyPost_ret (v := .tuple #[zeroR, .int .i64 2]) (by simp [results, Tryd.results28, go_sem, zeroR, c0, c1, c2, c3]) rfl (reqPost_err HR.out h0.below)
  · have HG := Lib.hid hlong
    have hlen : (S l).size ≤ 4096 := by omega
    clear hlong
    have HZ := Lib.hid hz
    clear hz
    cases hl : Req.line l with
    | none =>
      have HR := Lib.hid (parse_2 HG.out hl)
      go_enter Tryd.func28, Tryd.ntmps28
      go_wp2_with fail
      refine (lineCut_none l _ h0.env (by have := HZ.out; omega) hl).mono ?_
      rintro e w1 ⟨rfl, hb1⟩
      have h1 := h0.next hb1
      clear hb1 h0 hl
      obtain ⟨c0, c1, c2, c3, f0, f1, f2, f3⟩ := h1.cells
      go_wp2
      exact bodyPost_ret (v := .tuple #[zeroR, .int .i64 3]) (by simp [results, Tryd.results28, go_sem, zeroR, c0, c1, c2, c3]) rfl (reqPost_err HR.out (below_put4 h1.below _ _ _ _))
    | some p =>
      obtain ⟨a, r⟩ := p
      have hll := Req.line_len hl
      have hla : a.length ≤ 4096 := by have := HZ.out; omega
      have hlr : r.length ≤ 4096 := by have := HZ.out; omega
      have HL := Lib.hid hl
      clear hl hll
      cases hf : Req.first a with
      | error n =>
        have HR := Lib.hid (parse_3 HG.out HL.out hf)
        have hn0 := first_err hf
        have en : ((n : Int) != 0) = true := by simp; omega
        have HF := Lib.hid hf
        clear hf
        go_enter Tryd.func28, Tryd.ntmps28
        go_wp2_with fail
        refine (lineCut_some l a r _ h0.env (by have := HZ.out; omega) HL.out).mono ?_
        rintro e w1 ⟨rfl, hb1⟩
        have h1 := h0.next hb1
        clear hb1 h0
        go_wp2_with fail
        refine (readFirst_err a n w1 h1.env (by omega) HF.out).mono ?_
        rintro e w2 ⟨rfl, hb2⟩
        have h2 := h1.next hb2
        clear hb2 h1
        obtain ⟨c0, c1, c2, c3, f0, f1, f2, f3⟩ := h2.cells
        go_wp2
        exact bodyPost_ret (v := .tuple #[zeroR, .int .i64 n]) (by simp [results, Tryd.results28, go_sem, zeroR, c0, c1, c2, c3]) rfl (reqPost_err HR.out (below_put4 h2.below _ _ _ _))
      | ok p =>
        obtain ⟨m, t⟩ := p
        have HF := Lib.hid hf
        clear hf
        cases hh : Req.heads 32 r with
        | error n =>
          have HR := Lib.hid (parse_4 HG.out HL.out HF.out hh)
          have hn0 := heads_err 32 r n hh
          have en : ((n : Int) != 0) = true := by simp; omega
          have HH := Lib.hid hh
          clear hh
          go_enter Tryd.func28, Tryd.ntmps28
          go_wp2_with fail
          refine (lineCut_some l a r _ h0.env (by have := HZ.out; omega) HL.out).mono ?_
          rintro e w1 ⟨rfl, hb1⟩
          have h1 := h0.next hb1
          clear hb1 h0
          go_wp2_with fail
          refine (readFirst_ok a m t w1 h1.env (by omega) HF.out).mono ?_
          rintro e w2 ⟨rfl, hb2⟩
          have h2 := h1.next hb2
          clear hb2 h1
          go_wp2_with fail
          refine (readHeaders_err r n w2 h2.env (by omega) HH.out).mono ?_
          rintro e w3 ⟨rfl, hb3⟩
          have h3 := h2.next hb3
          clear hb3 h2
          obtain ⟨c0, c1, c2, c3, f0, f1, f2, f3⟩ := h3.cells
          go_wp2
          exact bodyPost_ret (v := .tuple #[zeroR, .int .i64 n]) (by simp [results, Tryd.results28, go_sem, zeroR, c0, c1, c2, c3]) rfl (reqPost_err HR.out (below_put4 h3.below _ _ _ _))
        | ok p =>
          obtain ⟨hs, b⟩ := p
          have HP5 := Lib.hid (parse_5 HG.out HL.out HF.out hh)
          have HP6 := Lib.hid (fun n => parse_6 (n := n) HG.out HL.out HF.out hh)
          obtain ⟨k1, k2, k3⟩ := heads_len 32 r hs b hh
          have HQ := Lib.hid (show ∀ k (h : k < hs.length), hs[k].1.length ≤ 1073741824 from fun k h => by have := (k3 hs[k] (List.getElem_mem h)).1; omega)
          have HV := Lib.hid (show (Req.hdrV Req.cl hs).length ≤ 1073741824 by have := hdrV_len (N := r.length) Req.cl hs (fun q hq => (k3 q hq).2); omega)
          have HH := Lib.hid hh
          clear hh k3
          go_enter Tryd.func28, Tryd.ntmps28
          go_wp2_with fail
          refine (lineCut_some l a r _ h0.env (by have := HZ.out; omega) HL.out).mono ?_
          rintro e w1 ⟨rfl, hb1⟩
          have h1 := h0.next hb1
          clear hb1 h0
          go_wp2_with fail
          refine (readFirst_ok a m t w1 h1.env (by omega) HF.out).mono ?_
          rintro e w2 ⟨rfl, hb2⟩
          have h2 := h1.next hb2
          clear hb2 h1
          go_wp2_with fail
          refine (readHeaders_ok r hs b w2 h2.env (by omega) HH.out).mono ?_
          rintro e w3 ⟨v, rfl, hrow, hb3⟩
          have h3 := h2.next hb3
          have hg2 := h2.lt
          clear hb3 h2
          obtain ⟨A, cap, rfl, hcapQ, hat⟩ := hrow.at
          have hpc : PCells w3 w3.heap.size A hs := by
            obtain ⟨A', cap', e', hp'⟩ := hrow.reads
            cases e'
            exact hp'
          have HAT := Lib.hid hat
          clear hat hrow
          have hb4 := (Below.refl w3.heap.size w3).alloc (Nat.le_refl _) (.cells #[.string (S m), .string (S t), .slice A hs.length cap, .string (S b)] 50)
          have h4 := h3.next hb4
          have hpc4 := hpc.next hb4
          have B4 := BlkR.new w3 m t b (.slice A hs.length cap)
          have hz4 : w3.heap.size < (w3.alloc (.cells #[.string (S m), .string (S t), .slice A hs.length cap, .string (S b)] 50)).heap.size := by simp
          generalize hW4 : w3.alloc (.cells #[.string (S m), .string (S t), .slice A hs.length cap, .string (S b)] 50) = w4 at h4 hpc4 B4 hz4 hb4
          have c0 := B4.c0
          have c1 := B4.c1
          have c2 := B4.c2
          have c3 := B4.c3
          go_wp2_with fail
          refine (bodyLength_any m t A cap hs b w4 hpc4 (by omega) HQ.out HV.out).mono ?_
          rintro e w5 ⟨rfl, hb5⟩
          have h5 := h4.next hb5
          have B5 := B4.below hb5 hz4
          have hb35 : Below w3.heap.size w3 w5 := hb4.trans (hb5.mono hb4.size)
          have hs5 : w3.heap.size ≤ w5.heap.size := hb35.size
          clear c0 c1 c2 c3 hb5 B4 hz4 hpc4 hpc h4 hW4 hb4
          obtain ⟨c0, c1, c2, c3, f0, f1, f2, f3⟩ := h5.cells
          cases hbl : Req.bodyLen hs with
          | none =>
            have HR := Lib.hid (HP5.out hbl)
            clear hbl
            unfold numRes
            go_wp2
            exact bodyPost_ret (v := .tuple #[zeroR, .int .i64 18]) (by simp [results, Tryd.results28, go_sem, zeroR, c0, c1, c2, c3]) rfl (reqPost_err HR.out (below_put4 h5.below _ _ _ _))
          | some n =>
            have HR := Lib.hid (HP6.out n hbl)
            clear hbl
            unfold numRes
            have hbz : (S b).size = b.length := rfl
            have HBZ := Lib.hid hbz
            by_cases hlt : b.length < n
            · have hR := HR.out
              rw [if_pos hlt] at hR
              have HR := Lib.hid hR
              clear hR hbz
              have hlt' : (S b).size < n := hlt
              go_wp2
              exact bodyPost_ret (v := .tuple #[zeroR, .int .i64 3]) (by simp [results, Tryd.results28, go_sem, zeroR, c0, c1, c2, c3]) rfl (reqPost_err HR.out (below_put4 h5.below _ _ _ _))
            · by_cases hgt : n < b.length
              · have hR := HR.out
                rw [if_neg hlt, if_pos hgt] at hR
                have HR := Lib.hid hR
                clear hR hbz
                have hgt' : n < (S b).size := hgt
                go_wp2
                exact bodyPost_ret (v := .tuple #[zeroR, .int .i64 9]) (by simp [results, Tryd.results28, go_sem, zeroR, c0, c1, c2, c3]) rfl (reqPost_err HR.out (below_put4 h5.below _ _ _ _))
              · have hR := HR.out
                rw [if_neg hlt, if_neg hgt] at hR
                have HR := Lib.hid hR
                clear hR hbz
                have d0 := B5.c0
                have d1 := B5.c1
                have d2 := B5.c2
                have d3 := B5.c3
                have hlt' : ¬ (S b).size < n := hlt
                have hgt' : ¬ n < (S b).size := hgt
                go_wp2
                refine bodyPost_ret (v := .tuple #[rV m t A hs.length cap b, .int .i64 0]) (by simp [results, Tryd.results28, go_sem, rV, c0, c1, c2, c3]) rfl (reqPost_ok (q := ⟨m, t, hs, b⟩) HR.out ?_ (below_put4 h5.below _ _ _ _) hcapQ)
                exact (HAT.out w.heap.size hg2 w5 hb35 _ _ _ _).more (by simp [World.setCell]; omega)
end Rq
end Go.Proofs.YtehgigfngelkjaaDoor
