/- What the calls Drop, Stop and lay of the document's own disk do. No condition. What the calls Sync and Crash of the document's own disk do. Conditions: at most 1048576 blocks staged. -/
import Derived.Test.YtfceljbmdcbciaaDoorMg25
import Derived.Laws.OwnMore
namespace Go.Proofs.YtfceljbmdcbciaaDoor
set_option maxRecDepth 8000
open Go.RowKit

/-- Nothing is staged any more. -/
theorem r_drop {w : World} {b : Rm} {d : Dk.D} (h : RAt w b d) (ht : RThere w b) :
    RAt (w.setCell ⟨b.P, 1, none⟩ (.slice none 0 0)) { b with S := none, cS := 0, gs := [] } { d with st := [] } ∧ RThere (w.setCell ⟨b.P, 1, none⟩ (.slice none 0 0)) { b with S := none, cS := 0, gs := [] } ∧ OutP (fun x => x ∈ b.F) w (w.setCell ⟨b.P, 1, none⟩ (.slice none 0 0)) ∧ ∀ x ∈ ({ b with S := none, cS := 0, gs := [] } : Rm).F, x ∈ b.F := by
  have hs : ∀ x, x < w.heap.size → x ≠ b.P → (w.setCell ⟨b.P, 1, none⟩ (.slice none 0 0)).heap[x]? = w.heap[x]? := fun x _ hx => setP_other w b.P 1 _ x hx
  have hsub : ∀ x ∈ ({ b with S := none, cS := 0, gs := [] } : Rm).F, x ∈ b.F := fun x hx => by
    rcases (mem_R _ _).1 hx with h | h | h | h | h
    · exact rbmem.1 h
    · exact rbmem.2.1 h
    · cases h
    · exact rbmem.2.2.2.1 h
    · cases h
  refine ⟨⟨⟨h.ok.n, h.ok.kept, fun s hs => by cases hs⟩, setP_heap h.disk 1 _, own_block h.kept (fun x hx => hs x (ht.all x (rbmem.2.1 hx)) (fun e => h.PK (e ▸ hx))), World.ownsRow_nil _ _ _ _, rfl, fun k hk => absurd hk (by simp), (show BoC _ b.G d.plan from BoC.pastR h hs), h.cap, h.left⟩, ⟨fun x hx => by rw [World.size_setCell]; exact ht.all x (hsub x hx)⟩, out_set _ (rbmem.1 rfl), hsub⟩

theorem ref_drop_any (w : World) (b : Rm) (d : Dk.D) (h : RAt w b d) (ht : RThere w b) (hsep : Sep b) :
    Calls Tryd.prog 82 #[.pointer (some ⟨b.P, 0, none⟩)] w (RNo w b d.drop) := by
  obtain ⟨_, c1, _, c3, _⟩ := h.c
  have f1 := h.fr 1
  by_cases h0 : d.left = 0
  · have HS : Hid (RStep w b d.drop w) := Lib.hid (by unfold Dk.D.drop; rw [if_pos h0]; exact RStep.quiet h ht hsep (Below.refl _ _))
    rw [decide_eq_true h0] at c3
    clear h0
    go_enter Tryd.func82, Tryd.ntmps82
    go_wp2
    go_end0
    exact ⟨rfl, HS.out⟩
  · have HS : Hid (RStep w b d.drop (w.setCell ⟨b.P, 1, none⟩ (.slice none 0 0))) := Lib.hid (by
      unfold Dk.D.drop
      rw [if_neg h0]
      obtain ⟨q1, q2, q3, q4⟩ := r_drop h ht
      exact ⟨{ b with S := none, cS := 0, gs := [] }, rfl, q1, q2, (fun x hx => by cases hx), q3, fun x hx => .inl (q4 x hx)⟩)
    rw [decide_eq_false h0] at c3
    clear h0
    go_enter Tryd.func82, Tryd.ntmps82
    go_wp2
    go_end0
    exact ⟨rfl, HS.out⟩

theorem ref_stop_any (w : World) (b : Rm) (d : Dk.D) (n : Int) (hn : I64 n) (h : RAt w b d) (ht : RThere w b) (hsep : Sep b) :
    Calls Tryd.prog 17 #[.pointer (some ⟨b.P, 0, none⟩), .int .i64 n] w (RNo w b (d.stop n)) := by
  obtain ⟨_, _, _, c3, c4⟩ := h.c
  have f3 := h.fr 3
  have f4 := h.fr 4
  obtain ⟨mx, hmx⟩ : ∃ mx, mx = max 0 n := ⟨_, rfl⟩
  obtain ⟨n1, n2⟩ := hn
  have hdok : Dk.Ok (d.stop n) := h.ok.stop n
  have e1 : (d.stop n).n = d.n ∧ (d.stop n).kept = d.kept ∧ (d.stop n).st = d.st ∧ (d.stop n).plan = d.plan := by
    unfold Dk.D.stop
    split <;> exact ⟨rfl, rfl, rfl, rfl⟩
  have e2 : (d.stop n).left = if d.left = 0 then 0 else n := by
    unfold Dk.D.stop
    by_cases h0 : d.left = 0
    · rw [if_pos h0, if_pos h0]; exact h0
    · rw [if_neg h0, if_neg h0]
  by_cases h0 : n = 0
  · have hm0 : mx = 0 := by omega
    have eL : (d.stop n).left = 0 := by rw [e2]; split <;> omega
    have HS : Hid (RStep w b (d.stop n) ((w.setCell ⟨b.P, 4, none⟩ (.int .i64 0)).setCell ⟨b.P, 3, none⟩ (.bool true))) := Lib.hid (by
      have hs : ∀ x, x < w.heap.size → x ≠ b.P → ((w.setCell ⟨b.P, 4, none⟩ (.int .i64 0)).setCell ⟨b.P, 3, none⟩ (.bool true)).heap[x]? = w.heap[x]? := fun x _ hx => set2_other w b.P 4 3 _ _ x hx
      refine ⟨{ b with G := b.G, cG := b.cG, lf := 0 }, rfl, h.setP ht b.G b.cG 0 e1.1 e1.2.1 e1.2.2.1 hdok ?_ hs (by rw [e1.2.2.2]; exact BoC.pastR h hs) (by rw [e1.2.2.2]; exact h.cap) ⟨by omega, by omega, fun h => absurd eL h⟩, ⟨fun x hx => by rw [World.size_setCell, World.size_setCell]; exact ht.all x hx⟩, hsep, (out_set (F := fun x => x ∈ b.F) (j := 4) _ (rbmem.1 rfl)).set _ (rbmem.1 rfl), fun x hx => .inl hx⟩
      rw [setP_heap (setP_heap h.disk 4 (.int .i64 0)) 3 (.bool true), e1.2.2.2, decide_eq_true eL]
      rfl)
    subst h0
    clear e1 e2 eL hdok hmx hm0
    go_enter Tryd.func17, Tryd.ntmps17
    go_wp2
    go_end0
    exact ⟨rfl, HS.out⟩
  · have HS : Hid (RStep w b (d.stop n) (w.setCell ⟨b.P, 4, none⟩ (.int .i64 mx))) := Lib.hid (by
      have hs : ∀ x, x < w.heap.size → x ≠ b.P → (w.setCell ⟨b.P, 4, none⟩ (.int .i64 mx)).heap[x]? = w.heap[x]? := fun x _ hx => setP_other w b.P 4 _ x hx
      have eL : decide ((d.stop n).left = 0) = decide (d.left = 0) := by
        rw [e2]
        by_cases hd : d.left = 0
        · rw [if_pos hd]; simp [hd]
        · rw [if_neg hd, decide_eq_false h0, decide_eq_false hd]
      refine ⟨{ b with G := b.G, cG := b.cG, lf := mx }, rfl, h.setP ht b.G b.cG mx e1.1 e1.2.1 e1.2.2.1 hdok ?_ hs (by rw [e1.2.2.2]; exact BoC.pastR h hs) (by rw [e1.2.2.2]; exact h.cap) ⟨by omega, by omega, fun hd => ?_⟩, ⟨fun x hx => by rw [World.size_setCell]; exact ht.all x hx⟩, hsep, out_set _ (rbmem.1 rfl), fun x hx => .inl hx⟩
      · rw [setP_heap h.disk 4 (.int .i64 mx), e1.2.2.2, eL]
        rfl
      · rw [e2] at hd ⊢
        by_cases hd0 : d.left = 0
        · rw [if_pos hd0] at hd; exact absurd rfl hd
        · rw [if_neg hd0]; exact hmx)
    have h0' : (n == 0) = false := by simpa using h0
    have hmx' : max 0 n = mx := hmx.symm
    clear e1 e2 hdok hmx
    go_enter Tryd.func17, Tryd.ntmps17
    go_wp2
    go_end0
    exact ⟨rfl, HS.out⟩

/-- One byte of what is kept is laid. -/
theorem lay_step {N : Nat} {kp y : List UInt8} {at0 k : Nat} (hk : kp.length = 32 * N) (h1 : at0 < N) (h2 : y.length = 32) (hk32 : k < 32) :
    (bcs (Dk.lay kp (at0, y) k)).set (32 * at0 + k) (B (y[k]'(by omega))) = bcs (Dk.lay kp (at0, y) (k + 1)) := by
  apply List.ext_getElem?
  intro q
  have hl : (Dk.lay kp (at0, y) k).length = 32 * N := Dk.lay_ok k hk h1 h2
  rw [List.getElem?_set]
  unfold bcs
  rw [List.getElem?_map, List.getElem?_map, Dk.lay_get hk h1 h2 (by omega), Dk.lay_get hk h1 h2 (by omega)]
  dsimp only
  by_cases hq : 32 * at0 + k = q
  · subst hq
    rw [if_pos rfl, if_pos (by rw [List.length_map, hl]; omega), if_pos (by omega), show 32 * at0 + k - 32 * at0 = k by omega, List.getElem?_eq_getElem (by omega)]
    rfl
  · rw [if_neg hq]
    by_cases hr : 32 * at0 ≤ q ∧ q < 32 * at0 + k
    · rw [if_pos hr, if_pos (by omega)]
    · rw [if_neg hr, if_neg (by omega)]
/-- Only what is kept has changed, in its own block. -/
theorem RAt.keptTo {w w' : World} {b : Rm} {d : Dk.D} (h : RAt w b d) (ht : RThere w b) (hsep : Sep b) (kp : List UInt8) (hl : kp.length = d.kept.length) (hk : w'.ownsRow 0 5 1 (.slice b.K d.kept.length b.cK) d.kept.length (bcs kp)) (hs : ∀ x, x < w.heap.size → x ∉ blkOf b.K → w'.heap[x]? = w.heap[x]?) : RAt w' b { d with kept := kp } where
  ok := ⟨h.ok.n, by rw [hl]; exact h.ok.kept, h.ok.st⟩
  disk := by
    dsimp only
    rw [hl]
    exact (hs b.P (ht.all _ (rbmem.1 rfl)) h.PK).trans h.disk
  kept := by
    dsimp only
    rw [hl]
    exact hk
  st := own_block h.st (fun x hx => hs x (ht.all x (rbmem.2.2.1 hx)) (fun e => by
    obtain ⟨c1, e1⟩ := own_lt h.st x hx
    obtain ⟨c2, e2⟩ := own_lt h.kept x e
    rw [e1] at e2
    simp at e2))
  gl := h.gl
  gb := fun k hk' => (hs _ (ht.all _ (rbmem.2.2.2.2 (List.getElem_mem _))) (hsep _ (List.getElem_mem _))).trans (h.gb k hk')
  plan := h.plan.rows (blkOf b.K) (fun x hx => by
    obtain ⟨c, e⟩ := own_lt h.kept x hx
    exact ⟨c, _, _, e, by decide⟩) hs
  cap := h.cap
  left := h.left
def LayPost (w : World) (b : Rm) (d : Dk.D) (kp : List UInt8) (e : Ending) (w' : World) : Prop := e = .returned (.tuple #[]) ∧ RAt w' b { d with kept := kp } ∧ OutP (fun x => x ∈ blkOf b.K) w w'

set_option maxHeartbeats 1600000 in
theorem ref_lay_any (w : World) (b : Rm) (d : Dk.D) (at0 g q : Nat) (y : List UInt8) (h : RAt w b d) (ht : RThere w b) (hsep : Sep b) (hat : at0 < d.n) (hy : y.length = 32) (hq : q ≤ 32) (hg : w.heap[g]? = some (.cells (cB y) 5 (0, 0))) (hgK : g ∉ blkOf b.K) :
    Calls Tryd.prog 55 #[.pointer (some ⟨b.P, 0, none⟩), .agg #[.int .i64 (at0 : Int), .slice (some ⟨g, 0, none⟩) 32 32], .int .i64 (q : Int)] w (LayPost w b d (Dk.lay d.kept (at0, y) q)) := by
  have hn := h.ok.n
  obtain ⟨L, hL⟩ : ∃ L, L = d.kept.length := ⟨_, rfl⟩
  have hLn : L = 32 * d.n := by rw [hL]; exact h.ok.kept
  obtain ⟨K', cap', eK, hcapn, hcapm, hKs, hKb⟩ := own_form h.kept
  injection eK with eK1 _ eK2
  obtain ⟨gk, hgk⟩ := hKs (by omega)
  have hbK : b.K = some ⟨gk, 0, none⟩ := by rw [eK1, hgk]
  have hgk0 : gk ∈ blkOf b.K := by rw [hbK]; simp [blkOf]
  have hgkl : gk < w.heap.size := (hKb gk (by rw [hgk]; simp [blkOf])).2.1
  have hgne : g ≠ gk := fun e => hgK (by rw [e]; exact hgk0)
  have hgl := lt_of_blk' hg
  have hPl := ht.all b.P (rbmem.1 rfl)
  have hPgk : b.P ≠ gk := fun e => h.PK (by rw [e]; exact hgk0)
  obtain ⟨w0, hw0⟩ : ∃ w0, w0 = w.alloc (.cells #[.int .i64 (at0 : Int), .slice (some ⟨g, 0, none⟩) 32 32] 100) := ⟨_, rfl⟩
  obtain ⟨g0, hg0⟩ : ∃ g0, g0 = w.heap.size := ⟨_, rfl⟩
  have hb0 : Below w.heap.size w w0 := by rw [hw0]; exact (Below.refl _ _).alloc (Nat.le_refl _) _
  have hx0 : w0.heap[g0]? = some (.cells #[.int .i64 (at0 : Int), .slice (some ⟨g, 0, none⟩) 32 32] 100 (0, 0)) := by rw [hw0, hg0]; exact heap_alloc_new w _
  have HX0 := Lib.hid hx0
  have hg0ne : g0 ≠ gk := by omega
  have hR0 : RAt w0 b d := h.same (fun x hx => hb0.block x (ht.all x hx))
  have hT0 : RThere w0 b := ht.more hb0.size
  have HG0 : Hid (w0.heap[g]? = some (.cells (cB y) 5 (0, 0))) := Lib.hid ((hb0.block g hgl).trans hg)
  have HW0 := Lib.hid hw0
  have HG0E := Lib.hid hg0
  have HB0 := Lib.hid hb0
  have HR0 := Lib.hid hR0
  have HT0 := Lib.hid hT0
  have HH := Lib.hid h
  have HLN := Lib.hid hLn
  have HLL := Lib.hid hL
  have HBK := Lib.hid hbK
  clear hb0 hR0 hT0 hw0 hg0 hg ht h hL hLn eK1 eK2 hgk hKs hKb hgK hx0 hbK
  go_enter Tryd.func55, Tryd.ntmps55
  go_wp2_with fail
  rw [← HW0.out, ← HG0E.out]
  go_loopw [6] (fun iv wr => ∃ k : Nat, k ≤ q ∧ iv = .int .i64 k ∧ RAt wr b { d with kept := Dk.lay d.kept (at0, y) k } ∧ OutP (fun x => x = gk) w0 wr) (fun iv _ => q - (intOf iv).toNat)
  case atStart => exact ⟨0, Nat.zero_le _, rfl, by rw [Dk.lay_zero]; exact HR0.out, OutP.refl _ _⟩
  case round =>
    obtain ⟨k, hk, rfl, hr, ho⟩ := hrel
    by_cases hlt : k < q
    · have hk0 : (0 : Int) ≤ (k : Int) := by omega
      have hkI : (k : Int) < (q : Int) := by omega
      have hk32 : (k : Int) < 32 := by omega
      have hk32n : k < 32 := by omega
      have hky : k < y.length := by rw [hy]; exact hk32n
      have hlk : (Dk.lay d.kept (at0, y) k).length = L := by rw [HLN.out]; exact Dk.lay_ok k HH.out.ok.kept hat hy
      have p0 := hr.c.1
      dsimp only at p0
      rw [hlk, HBK.out] at p0
      have hown := hr.kept
      dsimp only at hown
      rw [hlk, HBK.out] at hown
      obtain ⟨off, hoff⟩ : ∃ off, off = 32 * at0 + k := ⟨_, rfl⟩
      have hoffL : off < L := by have := HLN.out; omega
      have hfr := hown.frozenAt off
      have hce := hown.cellAt off (by omega)
      have hce2 : wr.cell? ⟨gk, off, none⟩ = some (B ((Dk.lay d.kept (at0, y) k)[off]'(by omega))) := by
        rw [hce]
        unfold bcs
        rw [List.getElem?_map, List.getElem?_eq_getElem (by omega)]
        rfl
      have q0 : wr.cell? ⟨g0, 0, none⟩ = some (.int .i64 (at0 : Int)) := by rw [cell_of_row wr g0 0 _ _ _ ((ho.block g0 (lt_of_blk' HX0.out) hg0ne).trans HX0.out)]; rfl
      have q1 : wr.cell? ⟨g0, 1, none⟩ = some (.slice (some ⟨g, 0, none⟩) 32 32) := by rw [cell_of_row wr g0 1 _ _ _ ((ho.block g0 (lt_of_blk' HX0.out) hg0ne).trans HX0.out)]; rfl
      have q2 : wr.cell? ⟨g, k, none⟩ = some (B (y[k]'hky)) := by
        rw [cell_of_row wr g k _ _ _ ((ho.block g (lt_of_blk' HG0.out) hgne).trans HG0.out)]
        unfold cB bcs
        rw [List.getElem?_toArray, List.getElem?_map, List.getElem?_eq_getElem (by omega)]
        rfl
      have o1 : (32 : Int) * (at0 : Int) + (k : Int) = (off : Int) := by omega
      have o0 : (0 : Int) ≤ (off : Int) := by omega
      have oL : (off : Int) < (L : Int) := by omega
      have ow : IntKind.i64.wrap (32 * (at0 : Int)) = 32 * (at0 : Int) := IntWalk.i64_in _ (by omega)
      have ow2 : IntKind.i64.wrap (off : Int) = (off : Int) := IntWalk.i64_in _ (by omega)
      have HOW := Lib.hid hown
      have HR := Lib.hid hr
      have HO := Lib.hid ho
      have HOFF := Lib.hid hoff
      have HLK := Lib.hid hlk
      obtain ⟨yn, hyn⟩ : ∃ yn : Nat, yn = (y[k]'hky).toNat := ⟨_, rfl⟩
      unfold B at q2 hce2
      rw [← hyn] at q2
      have HYV2 : Hid (Value.int .u8 (yn : Int) = B (y[k]'hky)) := Lib.hid (by rw [hyn])
      obtain ⟨ov, hov⟩ : ∃ ov : Nat, ov = ((Dk.lay d.kept (at0, y) k)[off]'(by omega)).toNat := ⟨_, rfl⟩
      rw [← hov] at hce2
      clear hyn
      clear hown hr ho hoff hlk hce hov
      have k0 : ∀ u, (wr.drew.setCell ⟨gk, off, none⟩ u).cell? ⟨b.P, 0, none⟩ = some (.slice (some ⟨gk, 0, none⟩) L b.cK) := fun u => (World.cell?_of_block (w := wr) (a := ⟨b.P, 0, none⟩) (setP_other wr.drew gk off u b.P hPgk)).trans p0
      have k1 : ∀ u, (wr.drew.setCell ⟨gk, off, none⟩ u).cell? ⟨g0, 0, none⟩ = some (.int .i64 (at0 : Int)) := fun u => (World.cell?_of_block (w := wr) (a := ⟨g0, 0, none⟩) (setP_other wr.drew gk off u g0 hg0ne)).trans q0
      have k2 : ∀ u, (wr.drew.setCell ⟨gk, off, none⟩ u).cell? ⟨g0, 1, none⟩ = some (.slice (some ⟨g, 0, none⟩) 32 32) := fun u => (World.cell?_of_block (w := wr) (a := ⟨g0, 1, none⟩) (setP_other wr.drew gk off u g0 hg0ne)).trans q1
      have k3 : ∀ u, (wr.drew.setCell ⟨gk, off, none⟩ u).cell? ⟨g, k, none⟩ = some (.int .u8 (yn : Int)) := fun u => (World.cell?_of_block (w := wr) (a := ⟨g, k, none⟩) (setP_other wr.drew gk off u g hgne)).trans q2
      have hce3 : wr.drew.cell? ⟨gk, off, none⟩ = some (.int .u8 (ov : Int)) := hce2
      have hfr3 : wr.drew.frozen? ⟨gk, off, none⟩ = false := hfr
      go_wp2_with fail
      go_region_held3 (fun wx => wx.cell? ⟨b.P, 0, none⟩ = some (.slice (some ⟨gk, 0, none⟩) L b.cK) ∧ wx.cell? ⟨g0, 0, none⟩ = some (.int .i64 (at0 : Int)) ∧ wx.cell? ⟨g0, 1, none⟩ = some (.slice (some ⟨g, 0, none⟩) 32 32) ∧ wx.cell? ⟨g, k, none⟩ = some (.int .u8 (yn : Int)))
        (first
          | exact ⟨p0, q0, q1, q2⟩
          | exact ⟨k0 _, k1 _, k2 _, k3 _⟩)
        (fail)
      have HAT : Hid (RAt ((wr.setCell ⟨gk, off, none⟩ (.int .u8 (yn : Int))).drew) b { d with kept := Dk.lay d.kept (at0, y) (k + 1) }) := Lib.hid (by
        have hst := (HOW.out.stored off (.int .u8 (yn : Int))).1
        have hset := lay_step HH.out.ok.kept hat hy hk32n
        have hk1 : (Dk.lay d.kept (at0, y) (k + 1)).length = (Dk.lay d.kept (at0, y) k).length := by rw [Dk.lay_ok (k + 1) HH.out.ok.kept hat hy, Dk.lay_ok k HH.out.ok.kept hat hy]
        rw [HYV2.out, HOFF.out, hset] at hst
        have hT : RThere wr b := HT0.out.more HO.out.size
        have h1 := HR.out.keptTo (w' := wr.setCell ⟨gk, 32 * at0 + k, none⟩ (B (y[k]'hky))) hT hsep (Dk.lay d.kept (at0, y) (k + 1)) hk1 (by dsimp only; rw [HLK.out, HBK.out]; exact hst) (fun x _ hx => setP_other wr gk _ _ x (fun e => hx (by rw [e, HBK.out]; simp [blkOf])))
        rw [HYV2.out, HOFF.out]
        exact h1.same (fun _ _ => rfl))
      have HOT : Hid (OutP (fun x => x = gk) w0 ((wr.setCell ⟨gk, off, none⟩ (.int .u8 (yn : Int))).drew)) := Lib.hid (by
        have := HO.out.set (P := gk) (j := off) (.int .u8 (yn : Int)) rfl
        exact ⟨this.os, this.tape, this.output, this.size, this.block⟩)
      clear k0 k1 k2 k3 p0 q0 q1 q2 hce2 hce3 hfr hfr3
      try clear hHeld
      go_wp2
      go_roundw
      case rel => exact ⟨k + 1, by omega, by go_num, HAT.out, HOT.out⟩
      case measure => simp [intOf]; omega
    · have hkI : ¬ (k : Int) < (q : Int) := by omega
      have HE : Hid (LayPost w b d (Dk.lay d.kept (at0, y) q) (.returned (.tuple #[])) wr) := Lib.hid (by
        rw [show k = q by omega] at hr
        exact ⟨rfl, hr, (OutP.of (F := fun x => x ∈ blkOf b.K) HB0.out).trans ho (fun _ _ h => h) (fun x _ h => by rw [h, HBK.out]; simp [blkOf])⟩)
      clear hr ho
      go_wp2_with fail
      go_end0
      exact HE.out
end Go.Proofs.YtfceljbmdcbciaaDoor
namespace Go.Proofs.YtfceljbmdcbciaaDoor
set_option maxRecDepth 8000
open Go.RowKit

theorem rcs_get : ∀ (l : List (Nat × List UInt8)) (gs : List Nat) (k : Nat) (hk : k < l.length) (hg : k < gs.length) (q : Nat) (v : Value), (rc1 l[k].1 gs[k])[q]? = some v → (rcs l gs)[k * 2 + q]? = some v
  | s :: l, g :: gs, 0, _, _, q, v, h => by
    have h' : (rc1 s.1 g)[q]? = some v := h
    unfold rcs
    rw [Nat.zero_mul, Nat.zero_add, List.getElem?_append_left (List.getElem?_eq_some_iff.1 h').1]
    exact h'
  | s :: l, g :: gs, k + 1, hk, hg, q, v, h => by
    have ih := rcs_get l gs k (by simpa using hk) (by simpa using hg) q v (by simpa using h)
    unfold rcs
    rw [List.getElem?_append_right (by unfold rc1; simp; omega)]
    have e : (k + 1) * 2 + q - (rc1 s.1 g).length = k * 2 + q := by
      show (k + 1) * 2 + q - 2 = _
      omega
    rw [e]
    exact ih
theorem range_r {w : World} {b : Rm} {d : Dk.D} (h : RAt w b d) {k : Nat} (hk : k < d.st.length) : ∃ g, b.S = some ⟨g, 0, none⟩ ∧ g < w.heap.size ∧ w.rangeAt g (k * 2) (rc1 d.st[k].1 (b.gs[k]'(by rw [h.gl]; exact hk))) := by
  obtain ⟨A, cap, e, _, _, hA, hblk⟩ := own_form h.st
  injection e with e1 _ _
  obtain ⟨g, hg⟩ := hA (by omega)
  rw [hg] at e1
  have hb := hblk g (by rw [hg]; simp [blkOf])
  refine ⟨g, e1, hb.2.1, fun q v hv => ?_⟩
  have := h.st.cells (g := g) (by rw [e1]; rfl) (k * 2 + q) v (rcs_get d.st b.gs k hk (by rw [h.gl]; exact hk) q v hv)
  rw [Addr.add_mid, Nat.zero_add] at this
  exact this
/-- In the middle of laying: what is kept is kp, all else as it was. -/
def RMid (w : World) (b : Rm) (d : Dk.D) (kp : List UInt8) (wr : World) : Prop := RAt wr b { d with kept := kp } ∧ RThere wr b ∧ OutP (fun x => x ∈ blkOf b.K) w wr

set_option maxHeartbeats 1600000 in
theorem ref_sync_any (w : World) (b : Rm) (d : Dk.D) (h : RAt w b d) (ht : RThere w b) (hsep : Sep b) (hst : d.st.length ≤ 1048576) :
    Calls Tryd.prog 109 #[.pointer (some ⟨b.P, 0, none⟩)] w (RInt w b d.syncE d.sync) := by
  have HFA := ref_fails_any w b d h ht hsep
  cases hb : d.bad with
  | true =>
    have HE : Hid (∀ w', RStep w b d.asked w' → RInt w b d.syncE d.sync (.returned (.int .i64 21)) w') := Lib.hid (fun w' hs => by
      unfold Dk.D.syncE Dk.D.sync
      rw [hb, if_pos rfl, if_pos rfl]
      exact ⟨rfl, hs⟩)
    rw [hb] at HFA
    clear hb
    go_enter Tryd.func109, Tryd.ntmps109
    go_wp2_with fail
    refine HFA.mono ?_
    rintro e w' ⟨rfl, hs⟩
    have HE2 := Lib.hid (HE.out _ hs)
    clear hs
    go_wp2
    go_ret
    exact HE2.out
  | false =>
    have HE : Hid (∀ w', RStep w b { d.asked with kept := Dk.layAll d.kept d.st, st := [] } w' → RInt w b d.syncE d.sync (.returned (.int .i64 0)) w') := Lib.hid (fun w' hs => by
      unfold Dk.D.syncE Dk.D.sync
      rw [hb]
      exact ⟨rfl, hs⟩)
    rw [hb] at HFA
    clear hb
    have HST0 := Lib.hid (Dk.asked_st d)
    have HKE0 := Lib.hid (Dk.asked_kept d)
    rw [← HST0.out, ← HKE0.out] at HE
    rw [← HST0.out] at hst
    clear HST0 HKE0
    obtain ⟨d1, hd1⟩ : ∃ d1, d1 = d.asked := ⟨_, rfl⟩
    rw [← hd1] at HE HFA hst
    clear hd1
    go_enter Tryd.func109, Tryd.ntmps109
    go_wp2_with fail
    refine HFA.mono ?_
    rintro e w1 ⟨rfl, b1, hP1, hat1, ht1, hs1, ho1, hF1⟩
    have HFIN : Hid (∀ wr, RMid w1 b1 d1 (Dk.layAll d1.kept d1.st) wr → RInt w b d.syncE d.sync (.returned (.int .i64 0)) (wr.setCell ⟨b.P, 1, none⟩ (.slice none 0 0))) := Lib.hid (fun wr hm => by
      refine HE.out _ (RStep.after hP1 ho1 hF1 ?_)
      rw [← hP1]
      obtain ⟨q1, q2, q3, q4⟩ := r_drop hm.1 hm.2.1
      refine ⟨{ b1 with S := none, cS := 0, gs := [] }, rfl, q1, q2, (fun x hx => by cases hx), ?_, fun x hx => .inl (q4 x hx)⟩
      exact hm.2.2.trans q3 (fun x _ h => rbmem.2.1 h) (fun x _ h => h))
    have HM0 : RMid w1 b1 d1 d1.kept w1 := ⟨hat1, ht1, OutP.refl _ _⟩
    have HD1 := Lib.hid hat1
    have HT1 := Lib.hid ht1
    have HS1 := Lib.hid hs1
    have HP := Lib.hid hP1
    obtain ⟨m, hm⟩ : ∃ m, m = d1.st.length := ⟨_, rfl⟩
    rw [← hm] at hst
    have HM := Lib.hid hm
    clear hm hat1 ht1 h ht ho1 hF1 HE hP1 HFA hs1
    go_wp2_with fail
    go_loopw [4] (fun iv wr => ∃ k : Nat, k ≤ m ∧ iv = .int .i64 k ∧ RMid w1 b1 d1 (Dk.layAll d1.kept (d1.st.take k)) wr) (fun iv _ => m - (intOf iv).toNat)
    case atStart => exact ⟨0, Nat.zero_le _, rfl, HM0⟩
    case round =>
      obtain ⟨k, hk, rfl, hmid⟩ := hrel
      have p1 := hmid.1.c.2.1
      dsimp only at p1
      rw [HP.out, ← HM.out] at p1
      by_cases hlt : k < m
      · have hkl : k < d1.st.length := by have := HM.out; omega
        obtain ⟨g, hg, hgl, hrange⟩ := range_r hmid.1 hkl
        have hgs : k < b1.gs.length := by rw [hmid.1.gl]; exact hkl
        have hgb := hmid.1.gb k hkl
        have hok := HD1.out.ok.st _ (List.getElem_mem hkl)
        have HSN : Hid (Dk.layAll d1.kept (d1.st.take (k + 1)) = Dk.lay (Dk.layAll d1.kept (d1.st.take k)) d1.st[k] 32) := Lib.hid (by rw [List.take_succ_eq_append_getElem hkl, Dk.layAll_snoc])
        have hgK := HS1.out _ (List.getElem_mem hgs)
        dsimp only at hrange hgb
        obtain ⟨gb, hgbe⟩ : ∃ gb, gb = b1.gs[k]'hgs := ⟨_, rfl⟩
        rw [← hgbe] at hrange hgb hgK
        obtain ⟨⟨at0, y⟩, hs⟩ : ∃ s, s = d1.st[k] := ⟨_, rfl⟩
        rw [← hs] at hrange hok HSN hgb
        dsimp only at hrange hok HSN hgb
        obtain ⟨hok1, hok2⟩ := hok
        obtain ⟨kp, hkp⟩ : ∃ kp, kp = Dk.layAll d1.kept (d1.st.take k) := ⟨_, rfl⟩
        rw [← hkp] at hmid HSN
        have hLay := ref_lay_any wr b1 { d1 with kept := kp } at0 gb 32 y hmid.1 hmid.2.1 HS1.out hok1 hok2 (Nat.le_refl _) hgb hgK
        rw [HP.out] at hLay
        have HMID := Lib.hid hmid
        have hk0 : (0 : Int) ≤ (k : Int) := by omega
        have hkI : (k : Int) < (m : Int) := by omega
        have hbS : b1.S = some ⟨g, 0, none⟩ := hg
        rw [hbS] at p1
        unfold rc1 at hrange
        clear hs hok1 hok2 hkp hkl hmid hgb hgK hgbe hg hbS
        go_wp2_with ((with_reducible refine wpList_load_mid (op := ⟨some 24, _, _, _, _, _⟩) rfl 100 _ rfl g (k * 2) ?_ [.int .i64 (at0 : Int), .slice (some ⟨gb, 0, none⟩) 32 32] _ hrange Tryd.underlying100 rfl (by kernel_rfl) ?_); exact rfl)
        refine hLay.mono ?_
        rintro e w2 ⟨rfl, hr2, ho2⟩
        have HM2 : Hid (RMid w1 b1 d1 (Dk.lay kp (at0, y) 32) w2) := Lib.hid ⟨hr2, HMID.out.2.1.more ho2.size, HMID.out.2.2.trans ho2 (fun _ _ h => h) (fun _ _ h => h)⟩
        clear hLay hr2 ho2 hrange p1
        go_wp2_with fail
        go_roundw
        case rel => exact ⟨k + 1, by omega, by go_num, by rw [HSN.out]; exact HM2.out⟩
        case measure => simp [intOf]; omega
      · have hkI : ¬ (k : Int) < (m : Int) := by omega
        have HMF : Hid (RMid w1 b1 d1 (Dk.layAll d1.kept d1.st) wr) := Lib.hid (by
          have := HM.out
          rw [List.take_of_length_le (by omega)] at hmid
          exact hmid)
        have HZ := Lib.hid (HFIN.out wr HMF.out)
        have c1 := HMF.out.1.c.2.1
        have f1 := HMF.out.1.fr 1
        dsimp only at c1
        rw [HP.out] at c1 f1
        clear hmid p1
        rw [← HM.out] at c1
        go_wp2_with fail
        go_ret
        exact HZ.out

/-- The plan is empty, the disk on, and goes off no more. -/
theorem r_reset {w : World} {b : Rm} {d : Dk.D} (h : RAt w b d) (ht : RThere w b) :
    RAt (((w.setCell ⟨b.P, 2, none⟩ (.slice none 0 0)).setCell ⟨b.P, 3, none⟩ (.bool false)).setCell ⟨b.P, 4, none⟩ (.int .i64 0)) { b with G := none, cG := 0, lf := 0 } { d with plan := [], left := -1 } ∧ RThere (((w.setCell ⟨b.P, 2, none⟩ (.slice none 0 0)).setCell ⟨b.P, 3, none⟩ (.bool false)).setCell ⟨b.P, 4, none⟩ (.int .i64 0)) { b with G := none, cG := 0, lf := 0 } ∧ OutP (fun x => x ∈ b.F) w (((w.setCell ⟨b.P, 2, none⟩ (.slice none 0 0)).setCell ⟨b.P, 3, none⟩ (.bool false)).setCell ⟨b.P, 4, none⟩ (.int .i64 0)) := by
  have hs : ∀ x, x < w.heap.size → x ≠ b.P → (((w.setCell ⟨b.P, 2, none⟩ (.slice none 0 0)).setCell ⟨b.P, 3, none⟩ (.bool false)).setCell ⟨b.P, 4, none⟩ (.int .i64 0)).heap[x]? = w.heap[x]? := fun x _ hx => by rw [setP_other _ b.P 4 _ x hx, set2_other w b.P 2 3 _ _ x hx]
  refine ⟨h.setP (d' := { d with plan := [], left := -1 }) ht none 0 0 rfl rfl rfl ⟨h.ok.n, h.ok.kept, h.ok.st⟩ ?_ hs (fun h => absurd h (by simp)) (by simp) ⟨by omega, by omega, fun _ => rfl⟩, ⟨fun x hx => ?_⟩, ((out_set (F := fun x => x ∈ b.F) (j := 2) _ (rbmem.1 rfl)).set _ (rbmem.1 rfl)).set _ (rbmem.1 rfl)⟩
  · rw [setP_heap (setP_heap (setP_heap h.disk 2 (.slice none 0 0)) 3 (.bool false)) 4 (.int .i64 0)]
    rfl
  · rw [World.size_setCell, World.size_setCell, World.size_setCell]
    rcases (mem_R _ _).1 hx with h | h | h | h | h
    · exact ht.all x (rbmem.1 h)
    · exact ht.all x (rbmem.2.1 h)
    · exact ht.all x (rbmem.2.2.1 h)
    · cases h
    · exact ht.all x (rbmem.2.2.2.2 h)

set_option maxHeartbeats 3200000 in
theorem ref_crash_any (w : World) (b : Rm) (d : Dk.D) (A : Option Addr) (cap : Nat) (cuts : List UInt8) (h : RAt w b d) (ht : RThere w b) (hsep : Sep b) (hst : d.st.length ≤ 1048576) (_hcl : cuts.length ≤ 9223372036854775807) (hA : BIn w A cuts) (hF : 0 < cuts.length → ∀ ad, A = some ad → ad.block ∉ b.F) :
    Calls Tryd.prog 18 #[.pointer (some ⟨b.P, 0, none⟩), .slice A cuts.length cap] w (RNo w b (d.crash cuts)) := by
  have HFIN : Hid (∀ wr, RMid w b d (Dk.layCut cuts 0 d.kept d.st) wr → RNo w b (d.crash cuts) (.returned (.tuple #[])) ((((wr.setCell ⟨b.P, 1, none⟩ (.slice none 0 0)).setCell ⟨b.P, 2, none⟩ (.slice none 0 0)).setCell ⟨b.P, 3, none⟩ (.bool false)).setCell ⟨b.P, 4, none⟩ (.int .i64 0))) := Lib.hid (fun wr hm => by
    obtain ⟨q1, q2, q3, q4⟩ := r_drop hm.1 hm.2.1
    obtain ⟨p1, p2, p3⟩ := r_reset q1 q2
    refine ⟨rfl, { { b with S := none, cS := 0, gs := [] } with G := none, cG := 0, lf := 0 }, rfl, p1, p2, (fun x hx => by cases hx), ?_, fun x hx => .inl ?_⟩
    · exact (hm.2.2.trans q3 (fun x _ h => rbmem.2.1 h) (fun x _ h => h) (H := fun x => x ∈ b.F)).trans p3 (fun x _ h => h) (fun x _ h => q4 x h)
    · rcases (mem_R _ _).1 hx with h | h | h | h | h
      · exact rbmem.1 h
      · exact rbmem.2.1 h
      · cases h
      · cases h
      · cases h)
  have HM0 : RMid w b d d.kept w := ⟨h, ht, OutP.refl _ _⟩
  have HD1 := Lib.hid h
  have HS1 := Lib.hid hsep
  obtain ⟨m, hm⟩ : ∃ m, m = d.st.length := ⟨_, rfl⟩
  obtain ⟨nc, hnc⟩ : ∃ nc, nc = cuts.length := ⟨_, rfl⟩
  rw [← hm] at hst
  rw [← hnc] at _hcl ⊢
  have HM := Lib.hid hm
  have HNC := Lib.hid hnc
  have HAK : Hid (∀ wr, OutP (fun x => x ∈ blkOf b.K) w wr → BIn wr A cuts) := Lib.hid (fun wr ho hn => by
    obtain ⟨bb, off, e, hlt, hc⟩ := hA hn
    have hne : bb ∉ blkOf b.K := fun hx => hF hn _ e (rbmem.2.1 hx)
    exact ⟨bb, off, e, Nat.lt_of_lt_of_le hlt ho.size, fun k hk => (World.cell?_of_block (w := w) (w' := wr) (a := ⟨bb, off + k, none⟩) (ho.block bb hlt hne)).trans (hc k hk)⟩)
  clear hm hnc h ht hsep hA hF
  go_enter Tryd.func18, Tryd.ntmps18
  go_wp2_with fail
  go_loopw [4] (fun iv wr => ∃ k : Nat, k ≤ m ∧ iv = .int .i64 k ∧ RMid w b d (Dk.layCut cuts 0 d.kept (d.st.take k)) wr) (fun iv _ => m - (intOf iv).toNat)
  case atStart => exact ⟨0, Nat.zero_le _, rfl, HM0⟩
  case round =>
    obtain ⟨k, hk, rfl, hmid⟩ := hrel
    have p1 := hmid.1.c.2.1
    dsimp only at p1
    rw [← HM.out] at p1
    by_cases hlt : k < m
    · have hkl : k < d.st.length := by have := HM.out; omega
      obtain ⟨g, hg, hgl, hrange⟩ := range_r hmid.1 hkl
      have hgs : k < b.gs.length := by rw [hmid.1.gl]; exact hkl
      have hgb := hmid.1.gb k hkl
      have hok := HD1.out.ok.st _ (List.getElem_mem hkl)
      have HSN : Hid (Dk.layCut cuts 0 d.kept (d.st.take (k + 1)) = Dk.lay (Dk.layCut cuts 0 d.kept (d.st.take k)) d.st[k] (Dk.cutAt cuts k)) := Lib.hid (by rw [List.take_succ_eq_append_getElem hkl, Dk.layCut_snoc, List.length_take, Nat.min_eq_left (by omega), Nat.zero_add])
      have hgK := HS1.out _ (List.getElem_mem hgs)
      dsimp only at hrange hgb
      obtain ⟨gb, hgbe⟩ : ∃ gb, gb = b.gs[k]'hgs := ⟨_, rfl⟩
      rw [← hgbe] at hrange hgb hgK
      obtain ⟨⟨at0, y⟩, hs⟩ : ∃ s, s = d.st[k] := ⟨_, rfl⟩
      rw [← hs] at hrange hok HSN hgb
      dsimp only at hrange hok HSN hgb
      obtain ⟨hok1, hok2⟩ := hok
      obtain ⟨kp, hkp⟩ : ∃ kp, kp = Dk.layCut cuts 0 d.kept (d.st.take k) := ⟨_, rfl⟩
      rw [← hkp] at hmid HSN
      obtain ⟨q, hq⟩ : ∃ q, q = Dk.cutAt cuts k := ⟨_, rfl⟩
      have hq32 : q ≤ 32 := by
        rw [hq]
        unfold Dk.cutAt
        split
        · omega
        · omega
      rw [← hq] at HSN
      have hLay := ref_lay_any wr b { d with kept := kp } at0 gb q y hmid.1 hmid.2.1 HS1.out hok1 hok2 hq32 hgb hgK
      have HMID := Lib.hid hmid
      have hk0 : (0 : Int) ≤ (k : Int) := by omega
      have hkI : (k : Int) < (m : Int) := by omega
      have hbS : b.S = some ⟨g, 0, none⟩ := hg
      rw [hbS] at p1
      unfold rc1 at hrange
      have HQ := Lib.hid hq
      clear hs hok1 hok2 hkp hkl hmid hgb hgK hgbe hg hbS hq
      by_cases hkc : k < nc
      · have hkcI : (k : Int) < (nc : Int) := by omega
        have hkc2 : k < cuts.length := by have := HNC.out; omega
        obtain ⟨bb, off, hAe, hbb, hcell⟩ := HAK.out wr HMID.out.2.2 (by omega)
        have hcc := hcell k hkc2
        have hqx : q = (cuts[k]'hkc2).toNat % 33 := by rw [HQ.out]; unfold Dk.cutAt; rw [dif_pos hkc2]
        obtain ⟨x, hx⟩ : ∃ x, x = (cuts[k]'hkc2).toNat := ⟨_, rfl⟩
        have hx256 : x < 256 := by rw [hx]; exact (cuts[k]'hkc2).toNat_lt
        unfold B at hcc
        rw [← hx] at hcc hqx
        have x0 : (0 : Int) ≤ (x : Int) := by omega
        have x2 : (x : Int) % 33 = (q : Int) := by omega
        have x3 : (x : Int).tmod 33 = (q : Int) := by rw [Int.tmod_eq_emod_of_nonneg x0]; exact x2
        have x4 : x % 33 = q := hqx.symm
        rw [hAe]
        clear hcell hqx hx hAe hbb hkc2
        go_wp2_with ((with_reducible refine wpList_load_mid (op := ⟨some 32, _, _, _, _, _⟩) rfl 100 _ rfl g (k * 2) ?_ [.int .i64 (at0 : Int), .slice (some ⟨gb, 0, none⟩) 32 32] _ hrange Tryd.underlying100 rfl (by kernel_rfl) ?_); exact rfl)
        refine hLay.mono ?_
        rintro e w2 ⟨rfl, hr2, ho2⟩
        have HM2 : Hid (RMid w b d (Dk.lay kp (at0, y) q) w2) := Lib.hid ⟨hr2, HMID.out.2.1.more ho2.size, HMID.out.2.2.trans ho2 (fun _ _ h => h) (fun _ _ h => h)⟩
        clear hLay hr2 ho2 hrange p1 hcc
        go_wp2_with fail
        go_roundw
        case rel => exact ⟨k + 1, by omega, by go_num, by rw [HSN.out]; exact HM2.out⟩
        case measure => simp [intOf]; omega
      · have hkcI : ¬ (k : Int) < (nc : Int) := by omega
        have hq0 : q = 0 := by rw [HQ.out]; unfold Dk.cutAt; rw [dif_neg (by have := HNC.out; omega)]
        rw [hq0] at hLay HSN
        clear hq0
        go_wp2_with ((with_reducible refine wpList_load_mid (op := ⟨some 32, _, _, _, _, _⟩) rfl 100 _ rfl g (k * 2) ?_ [.int .i64 (at0 : Int), .slice (some ⟨gb, 0, none⟩) 32 32] _ hrange Tryd.underlying100 rfl (by kernel_rfl) ?_); exact rfl)
        refine hLay.mono ?_
        rintro e w2 ⟨rfl, hr2, ho2⟩
        have HM2 : Hid (RMid w b d (Dk.lay kp (at0, y) 0) w2) := Lib.hid ⟨hr2, HMID.out.2.1.more ho2.size, HMID.out.2.2.trans ho2 (fun _ _ h => h) (fun _ _ h => h)⟩
        clear hLay hr2 ho2 hrange p1
        go_wp2_with fail
        go_roundw
        case rel => exact ⟨k + 1, by omega, by go_num, by rw [HSN.out]; exact HM2.out⟩
        case measure => simp [intOf]; omega
    · have hkI : ¬ (k : Int) < (m : Int) := by omega
      have HMF : Hid (RMid w b d (Dk.layCut cuts 0 d.kept d.st) wr) := Lib.hid (by
        have := HM.out
        rw [List.take_of_length_le (by omega)] at hmid
        exact hmid)
      have HZ := Lib.hid (HFIN.out wr HMF.out)
      obtain ⟨_, c1, c2, c3, c4⟩ := HMF.out.1.c
      have f1 := HMF.out.1.fr 1
      have f2 := HMF.out.1.fr 2
      have f3 := HMF.out.1.fr 3
      have f4 := HMF.out.1.fr 4
      dsimp only at c1 c2 c3 c4
      clear hmid p1
      rw [← HM.out] at c1
      go_wp2_with fail
      go_end0
      exact HZ.out
end Go.Proofs.YtfceljbmdcbciaaDoor
