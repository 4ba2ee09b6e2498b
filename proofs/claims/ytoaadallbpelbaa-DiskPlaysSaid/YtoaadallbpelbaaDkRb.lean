/- What the calls Drop, Stop and lay of the document's own disk do. No condition. -/
import Derived.Test.YtoaadallbpelbaaDkRa
import Derived.Laws.OwnMore
namespace Go.Proofs.Ytoaadallbpelbaa
set_option maxRecDepth 8000
open Go.RowKit

/-- Nothing is staged any more. -/
theorem r_drop {w : World} {b : Rm} {d : Dk.D} (h : RAt w b d) (ht : RThere w b) :
    RAt (w.setCell ⟨b.P, 1, none⟩ (.slice none 0 0)) { b with S := none, cS := 0, gs := [] } { d with st := [] } ∧ RThere (w.setCell ⟨b.P, 1, none⟩ (.slice none 0 0)) { b with S := none, cS := 0, gs := [] } ∧ OutP (fun x => x ∈ b.F) w (w.setCell ⟨b.P, 1, none⟩ (.slice none 0 0)) ∧ ∀ x ∈ ({ b with S := none, cS := 0, gs := [] } : Rm).F, x ∈ b.F := by
  have hs : ∀ x, x < w.heap.size → x ≠ b.P → (w.setCell ⟨b.P, 1, none⟩ (.slice none 0 0)).heap[x]? = w.heap[x]? := fun x _ hx => setP_other w b.P 1 _ x hx
  have hsub : ∀ x ∈ ({ b with S := none, cS := 0, gs := [] } : Rm).F, x ∈ b.F := fun x hx => by
    rcases (mem_R _ _).1 hx with h | h | h | h | h
    · exact rbmem.1 h
    · exact rbmem.2.1 h
    · cases h
    · exact rbmem.2.2.2.1 h
    · cases h
  refine ⟨⟨⟨h.ok.n, h.ok.kept, fun s hs => by cases hs⟩, setP_heap h.disk 1 _, own_block h.kept (fun x hx => hs x (ht.all x (rbmem.2.1 hx)) (fun e => h.PK (e ▸ hx))), World.ownsRow_nil _ _ _ _, rfl, fun k hk => absurd hk (by simp), (show BoC _ b.G d.plan from BoC.pastR h hs), h.cap, h.left⟩, ⟨fun x hx => by rw [World.size_setCell]; exact ht.all x (hsub x hx)⟩, out_set _ (rbmem.1 rfl), hsub⟩

theorem ref_drop_any (w : World) (b : Rm) (d : Dk.D) (h : RAt w b d) (ht : RThere w b) (hsep : Sep b) :
    Calls Try.prog 16 #[.pointer (some ⟨b.P, 0, none⟩)] w (RNo w b d.drop) := by
  obtain ⟨_, c1, _, c3, _⟩ := h.c
  have f1 := h.fr 1
  by_cases h0 : d.left = 0
  · have HS : Hid (RStep w b d.drop w) := Lib.hid (by unfold Dk.D.drop; rw [if_pos h0]; exact RStep.quiet h ht hsep (Below.refl _ _))
    rw [decide_eq_true h0] at c3
    clear h0
    go_enter Try.func16, Try.ntmps16
    go_wp2
    go_end0
    exact ⟨rfl, HS.out⟩
  · have HS : Hid (RStep w b d.drop (w.setCell ⟨b.P, 1, none⟩ (.slice none 0 0))) := Lib.hid (by
      unfold Dk.D.drop
      rw [if_neg h0]
      obtain ⟨q1, q2, q3, q4⟩ := r_drop h ht
      exact ⟨{ b with S := none, cS := 0, gs := [] }, rfl, q1, q2, (fun x hx => by cases hx), q3, fun x hx => .inl (q4 x hx)⟩)
    rw [decide_eq_false h0] at c3
    clear h0
    go_enter Try.func16, Try.ntmps16
    go_wp2
    go_end0
    exact ⟨rfl, HS.out⟩

theorem ref_stop_any (w : World) (b : Rm) (d : Dk.D) (n : Int) (hn : I64 n) (h : RAt w b d) (ht : RThere w b) (hsep : Sep b) :
    Calls Try.prog 18 #[.pointer (some ⟨b.P, 0, none⟩), .int .i64 n] w (RNo w b (d.stop n)) := by
  obtain ⟨_, _, _, c3, c4⟩ := h.c
  have f3 := h.fr 3
  have f4 := h.fr 4
  obtain ⟨mx, hmx⟩ : ∃ mx, mx = max 0 n := ⟨_, rfl⟩
  obtain ⟨n1, n2⟩ := hn
  have hdok : Dk.Ok (d.stop n) := h.ok.stop n
  have e1 : (d.stop n).n = d.n ∧ (d.stop n).kept = d.kept ∧ (d.stop n).st = d.st ∧ (d.stop n).plan = d.plan := by
    unfold Dk.D.stop
    split <;> exact ⟨rfl, rfl, rfl, rfl⟩
  have e2 : (d.stop n).left = if d.left = 0 then 0 else n := by
    unfold Dk.D.stop
    by_cases h0 : d.left = 0
    · rw [if_pos h0, if_pos h0]; exact h0
    · rw [if_neg h0, if_neg h0]
  by_cases h0 : n = 0
  · have hm0 : mx = 0 := by omega
    have eL : (d.stop n).left = 0 := by rw [e2]; split <;> omega
    have HS : Hid (RStep w b (d.stop n) ((w.setCell ⟨b.P, 4, none⟩ (.int .i64 0)).setCell ⟨b.P, 3, none⟩ (.bool true))) := Lib.hid (by
      have hs : ∀ x, x < w.heap.size → x ≠ b.P → ((w.setCell ⟨b.P, 4, none⟩ (.int .i64 0)).setCell ⟨b.P, 3, none⟩ (.bool true)).heap[x]? = w.heap[x]? := fun x _ hx => set2_other w b.P 4 3 _ _ x hx
      refine ⟨{ b with G := b.G, cG := b.cG, lf := 0 }, rfl, h.setP ht b.G b.cG 0 e1.1 e1.2.1 e1.2.2.1 hdok ?_ hs (by rw [e1.2.2.2]; exact BoC.pastR h hs) (by rw [e1.2.2.2]; exact h.cap) ⟨by omega, by omega, fun h => absurd eL h⟩, ⟨fun x hx => by rw [World.size_setCell, World.size_setCell]; exact ht.all x hx⟩, hsep, (out_set (F := fun x => x ∈ b.F) (j := 4) _ (rbmem.1 rfl)).set _ (rbmem.1 rfl), fun x hx => .inl hx⟩
      rw [setP_heap (setP_heap h.disk 4 (.int .i64 0)) 3 (.bool true), e1.2.2.2, decide_eq_true eL]
      rfl)
    subst h0
    clear e1 e2 eL hdok hmx hm0
    go_enter Try.func18, Try.ntmps18
    go_wp2
    go_end0
    exact ⟨rfl, HS.out⟩
  · have HS : Hid (RStep w b (d.stop n) (w.setCell ⟨b.P, 4, none⟩ (.int .i64 mx))) := Lib.hid (by
      have hs : ∀ x, x < w.heap.size → x ≠ b.P → (w.setCell ⟨b.P, 4, none⟩ (.int .i64 mx)).heap[x]? = w.heap[x]? := fun x _ hx => setP_other w b.P 4 _ x hx
      have eL : decide ((d.stop n).left = 0) = decide (d.left = 0) := by
        rw [e2]
        by_cases hd : d.left = 0
        · rw [if_pos hd]; simp [hd]
        · rw [if_neg hd, decide_eq_false h0, decide_eq_false hd]
      refine ⟨{ b with G := b.G, cG := b.cG, lf := mx }, rfl, h.setP ht b.G b.cG mx e1.1 e1.2.1 e1.2.2.1 hdok ?_ hs (by rw [e1.2.2.2]; exact BoC.pastR h hs) (by rw [e1.2.2.2]; exact h.cap) ⟨by omega, by omega, fun hd => ?_⟩, ⟨fun x hx => by rw [World.size_setCell]; exact ht.all x hx⟩, hsep, out_set _ (rbmem.1 rfl), fun x hx => .inl hx⟩
      · rw [setP_heap h.disk 4 (.int .i64 mx), e1.2.2.2, eL]
        rfl
      · rw [e2] at hd ⊢
        by_cases hd0 : d.left = 0
        · rw [if_pos hd0] at hd; exact absurd rfl hd
        · rw [if_neg hd0]; exact hmx)
    have h0' : (n == 0) = false := by simpa using h0
    have hmx' : max 0 n = mx := hmx.symm
    clear e1 e2 hdok hmx
    go_enter Try.func18, Try.ntmps18
    go_wp2
    go_end0
    exact ⟨rfl, HS.out⟩

/-- One byte of what is kept is laid. -/
theorem lay_step {N : Nat} {kp y : List UInt8} {at0 k : Nat} (hk : kp.length = 32 * N) (h1 : at0 < N) (h2 : y.length = 32) (hk32 : k < 32) :
    (bcs (Dk.lay kp (at0, y) k)).set (32 * at0 + k) (B (y[k]'(by omega))) = bcs (Dk.lay kp (at0, y) (k + 1)) := by
  apply List.ext_getElem?
  intro q
  have hl : (Dk.lay kp (at0, y) k).length = 32 * N := Dk.lay_ok k hk h1 h2
  rw [List.getElem?_set]
  unfold bcs
  rw [List.getElem?_map, List.getElem?_map, Dk.lay_get hk h1 h2 (by omega), Dk.lay_get hk h1 h2 (by omega)]
  dsimp only
  by_cases hq : 32 * at0 + k = q
  · subst hq
    rw [if_pos rfl, if_pos (by rw [List.length_map, hl]; omega), if_pos (by omega), show 32 * at0 + k - 32 * at0 = k by omega, List.getElem?_eq_getElem (by omega)]
    rfl
  · rw [if_neg hq]
    by_cases hr : 32 * at0 ≤ q ∧ q < 32 * at0 + k
    · rw [if_pos hr, if_pos (by omega)]
    · rw [if_neg hr, if_neg (by omega)]
/-- Only what is kept has changed, in its own block. -/
theorem RAt.keptTo {w w' : World} {b : Rm} {d : Dk.D} (h : RAt w b d) (ht : RThere w b) (hsep : Sep b) (kp : List UInt8) (hl : kp.length = d.kept.length) (hk : w'.ownsRow 0 5 1 (.slice b.K d.kept.length b.cK) d.kept.length (bcs kp)) (hs : ∀ x, x < w.heap.size → x ∉ blkOf b.K → w'.heap[x]? = w.heap[x]?) : RAt w' b { d with kept := kp } where
  ok := ⟨h.ok.n, by rw [hl]; exact h.ok.kept, h.ok.st⟩
  disk := by
    dsimp only
    rw [hl]
    exact (hs b.P (ht.all _ (rbmem.1 rfl)) h.PK).trans h.disk
  kept := by
    dsimp only
    rw [hl]
    exact hk
  st := own_block h.st (fun x hx => hs x (ht.all x (rbmem.2.2.1 hx)) (fun e => by
    obtain ⟨c1, e1⟩ := own_lt h.st x hx
    obtain ⟨c2, e2⟩ := own_lt h.kept x e
    rw [e1] at e2
    simp at e2))
  gl := h.gl
  gb := fun k hk' => (hs _ (ht.all _ (rbmem.2.2.2.2 (List.getElem_mem _))) (hsep _ (List.getElem_mem _))).trans (h.gb k hk')
  plan := h.plan.rows (blkOf b.K) (fun x hx => by
    obtain ⟨c, e⟩ := own_lt h.kept x hx
    exact ⟨c, _, _, e, by decide⟩) hs
  cap := h.cap
  left := h.left
def LayPost (w : World) (b : Rm) (d : Dk.D) (kp : List UInt8) (e : Ending) (w' : World) : Prop := e = .returned (.tuple #[]) ∧ RAt w' b { d with kept := kp } ∧ OutP (fun x => x ∈ blkOf b.K) w w'

set_option maxHeartbeats 1600000 in
theorem ref_lay_any (w : World) (b : Rm) (d : Dk.D) (at0 g q : Nat) (y : List UInt8) (h : RAt w b d) (ht : RThere w b) (hsep : Sep b) (hat : at0 < d.n) (hy : y.length = 32) (hq : q ≤ 32) (hg : w.heap[g]? = some (.cells (cB y) 5 (0, 0))) (hgK : g ∉ blkOf b.K) :
    Calls Try.prog 37 #[.pointer (some ⟨b.P, 0, none⟩), .agg #[.int .i64 (at0 : Int), .slice (some ⟨g, 0, none⟩) 32 32], .int .i64 (q : Int)] w (LayPost w b d (Dk.lay d.kept (at0, y) q)) := by
  have hn := h.ok.n
  obtain ⟨L, hL⟩ : ∃ L, L = d.kept.length := ⟨_, rfl⟩
  have hLn : L = 32 * d.n := by rw [hL]; exact h.ok.kept
  obtain ⟨K', cap', eK, hcapn, hcapm, hKs, hKb⟩ := own_form h.kept
  injection eK with eK1 _ eK2
  obtain ⟨gk, hgk⟩ := hKs (by omega)
  have hbK : b.K = some ⟨gk, 0, none⟩ := by rw [eK1, hgk]
  have hgk0 : gk ∈ blkOf b.K := by rw [hbK]; simp [blkOf]
  have hgkl : gk < w.heap.size := (hKb gk (by rw [hgk]; simp [blkOf])).2.1
  have hgne : g ≠ gk := fun e => hgK (by rw [e]; exact hgk0)
  have hgl := lt_of_blk' hg
  have hPl := ht.all b.P (rbmem.1 rfl)
  have hPgk : b.P ≠ gk := fun e => h.PK (by rw [e]; exact hgk0)
  obtain ⟨w0, hw0⟩ : ∃ w0, w0 = w.alloc (.cells #[.int .i64 (at0 : Int), .slice (some ⟨g, 0, none⟩) 32 32] 62) := ⟨_, rfl⟩
  obtain ⟨g0, hg0⟩ : ∃ g0, g0 = w.heap.size := ⟨_, rfl⟩
  have hb0 : Below w.heap.size w w0 := by rw [hw0]; exact (Below.refl _ _).alloc (Nat.le_refl _) _
  have hx0 : w0.heap[g0]? = some (.cells #[.int .i64 (at0 : Int), .slice (some ⟨g, 0, none⟩) 32 32] 62 (0, 0)) := by rw [hw0, hg0]; exact heap_alloc_new w _
  have HX0 := Lib.hid hx0
  have hg0ne : g0 ≠ gk := by omega
  have hR0 : RAt w0 b d := h.same (fun x hx => hb0.block x (ht.all x hx))
  have hT0 : RThere w0 b := ht.more hb0.size
  have HG0 : Hid (w0.heap[g]? = some (.cells (cB y) 5 (0, 0))) := Lib.hid ((hb0.block g hgl).trans hg)
  have HW0 := Lib.hid hw0
  have HG0E := Lib.hid hg0
  have HB0 := Lib.hid hb0
  have HR0 := Lib.hid hR0
  have HT0 := Lib.hid hT0
  have HH := Lib.hid h
  have HLN := Lib.hid hLn
  have HLL := Lib.hid hL
  have HBK := Lib.hid hbK
  clear hb0 hR0 hT0 hw0 hg0 hg ht h hL hLn eK1 eK2 hgk hKs hKb hgK hx0 hbK
  go_enter Try.func37, Try.ntmps37
  go_wp2_with fail
  rw [← HW0.out, ← HG0E.out]
  go_loopw [6] (fun iv wr => ∃ k : Nat, k ≤ q ∧ iv = .int .i64 k ∧ RAt wr b { d with kept := Dk.lay d.kept (at0, y) k } ∧ OutP (fun x => x = gk) w0 wr) (fun iv _ => q - (intOf iv).toNat)
  case atStart => exact ⟨0, Nat.zero_le _, rfl, by rw [Dk.lay_zero]; exact HR0.out, OutP.refl _ _⟩
  case round =>
    obtain ⟨k, hk, rfl, hr, ho⟩ := hrel
    by_cases hlt : k < q
    · have hk0 : (0 : Int) ≤ (k : Int) := by omega
      have hkI : (k : Int) < (q : Int) := by omega
      have hk32 : (k : Int) < 32 := by omega
      have hk32n : k < 32 := by omega
      have hky : k < y.length := by rw [hy]; exact hk32n
      have hlk : (Dk.lay d.kept (at0, y) k).length = L := by rw [HLN.out]; exact Dk.lay_ok k HH.out.ok.kept hat hy
      have p0 := hr.c.1
      dsimp only at p0
      rw [hlk, HBK.out] at p0
      have hown := hr.kept
      dsimp only at hown
      rw [hlk, HBK.out] at hown
      obtain ⟨off, hoff⟩ : ∃ off, off = 32 * at0 + k := ⟨_, rfl⟩
      have hoffL : off < L := by have := HLN.out; omega
      have hfr := hown.frozenAt off
      have hce := hown.cellAt off (by omega)
      have hce2 : wr.cell? ⟨gk, off, none⟩ = some (B ((Dk.lay d.kept (at0, y) k)[off]'(by omega))) := by
        rw [hce]
        unfold bcs
        rw [List.getElem?_map, List.getElem?_eq_getElem (by omega)]
        rfl
      have q0 : wr.cell? ⟨g0, 0, none⟩ = some (.int .i64 (at0 : Int)) := by rw [cell_of_row wr g0 0 _ _ _ ((ho.block g0 (lt_of_blk' HX0.out) hg0ne).trans HX0.out)]; rfl
      have q1 : wr.cell? ⟨g0, 1, none⟩ = some (.slice (some ⟨g, 0, none⟩) 32 32) := by rw [cell_of_row wr g0 1 _ _ _ ((ho.block g0 (lt_of_blk' HX0.out) hg0ne).trans HX0.out)]; rfl
      have q2 : wr.cell? ⟨g, k, none⟩ = some (B (y[k]'hky)) := by
        rw [cell_of_row wr g k _ _ _ ((ho.block g (lt_of_blk' HG0.out) hgne).trans HG0.out)]
        unfold cB bcs
        rw [List.getElem?_toArray, List.getElem?_map, List.getElem?_eq_getElem (by omega)]
        rfl
      have o1 : (32 : Int) * (at0 : Int) + (k : Int) = (off : Int) := by omega
      have o0 : (0 : Int) ≤ (off : Int) := by omega
      have oL : (off : Int) < (L : Int) := by omega
      have ow : IntKind.i64.wrap (32 * (at0 : Int)) = 32 * (at0 : Int) := IntWalk.i64_in _ (by omega)
      have ow2 : IntKind.i64.wrap (off : Int) = (off : Int) := IntWalk.i64_in _ (by omega)
      have HOW := Lib.hid hown
      have HR := Lib.hid hr
      have HO := Lib.hid ho
      have HOFF := Lib.hid hoff
      have HLK := Lib.hid hlk
      obtain ⟨yn, hyn⟩ : ∃ yn : Nat, yn = (y[k]'hky).toNat := ⟨_, rfl⟩
      unfold B at q2 hce2
      rw [← hyn] at q2
      have HYV2 : Hid (Value.int .u8 (yn : Int) = B (y[k]'hky)) := Lib.hid (by rw [hyn])
      obtain ⟨ov, hov⟩ : ∃ ov : Nat, ov = ((Dk.lay d.kept (at0, y) k)[off]'(by omega)).toNat := ⟨_, rfl⟩
      rw [← hov] at hce2
      clear hyn
      clear hown hr ho hoff hlk hce hov
      have k0 : ∀ u, (wr.drew.setCell ⟨gk, off, none⟩ u).cell? ⟨b.P, 0, none⟩ = some (.slice (some ⟨gk, 0, none⟩) L b.cK) := fun u => (World.cell?_of_block (w := wr) (a := ⟨b.P, 0, none⟩) (setP_other wr.drew gk off u b.P hPgk)).trans p0
      have k1 : ∀ u, (wr.drew.setCell ⟨gk, off, none⟩ u).cell? ⟨g0, 0, none⟩ = some (.int .i64 (at0 : Int)) := fun u => (World.cell?_of_block (w := wr) (a := ⟨g0, 0, none⟩) (setP_other wr.drew gk off u g0 hg0ne)).trans q0
      have k2 : ∀ u, (wr.drew.setCell ⟨gk, off, none⟩ u).cell? ⟨g0, 1, none⟩ = some (.slice (some ⟨g, 0, none⟩) 32 32) := fun u => (World.cell?_of_block (w := wr) (a := ⟨g0, 1, none⟩) (setP_other wr.drew gk off u g0 hg0ne)).trans q1
      have k3 : ∀ u, (wr.drew.setCell ⟨gk, off, none⟩ u).cell? ⟨g, k, none⟩ = some (.int .u8 (yn : Int)) := fun u => (World.cell?_of_block (w := wr) (a := ⟨g, k, none⟩) (setP_other wr.drew gk off u g hgne)).trans q2
      have hce3 : wr.drew.cell? ⟨gk, off, none⟩ = some (.int .u8 (ov : Int)) := hce2
      have hfr3 : wr.drew.frozen? ⟨gk, off, none⟩ = false := hfr
      go_wp2_with fail
      go_region_held3 (fun wx => wx.cell? ⟨b.P, 0, none⟩ = some (.slice (some ⟨gk, 0, none⟩) L b.cK) ∧ wx.cell? ⟨g0, 0, none⟩ = some (.int .i64 (at0 : Int)) ∧ wx.cell? ⟨g0, 1, none⟩ = some (.slice (some ⟨g, 0, none⟩) 32 32) ∧ wx.cell? ⟨g, k, none⟩ = some (.int .u8 (yn : Int)))
        (first
          | exact ⟨p0, q0, q1, q2⟩
          | exact ⟨k0 _, k1 _, k2 _, k3 _⟩)
        (fail)
      have HAT : Hid (RAt ((wr.setCell ⟨gk, off, none⟩ (.int .u8 (yn : Int))).drew) b { d with kept := Dk.lay d.kept (at0, y) (k + 1) }) := Lib.hid (by
        have hst := (HOW.out.stored off (.int .u8 (yn : Int))).1
        have hset := lay_step HH.out.ok.kept hat hy hk32n
        have hk1 : (Dk.lay d.kept (at0, y) (k + 1)).length = (Dk.lay d.kept (at0, y) k).length := by rw [Dk.lay_ok (k + 1) HH.out.ok.kept hat hy, Dk.lay_ok k HH.out.ok.kept hat hy]
        rw [HYV2.out, HOFF.out, hset] at hst
        have hT : RThere wr b := HT0.out.more HO.out.size
        have h1 := HR.out.keptTo (w' := wr.setCell ⟨gk, 32 * at0 + k, none⟩ (B (y[k]'hky))) hT hsep (Dk.lay d.kept (at0, y) (k + 1)) hk1 (by dsimp only; rw [HLK.out, HBK.out]; exact hst) (fun x _ hx => setP_other wr gk _ _ x (fun e => hx (by rw [e, HBK.out]; simp [blkOf])))
        rw [HYV2.out, HOFF.out]
        exact h1.same (fun _ _ => rfl))
      have HOT : Hid (OutP (fun x => x = gk) w0 ((wr.setCell ⟨gk, off, none⟩ (.int .u8 (yn : Int))).drew)) := Lib.hid (by
        have := HO.out.set (P := gk) (j := off) (.int .u8 (yn : Int)) rfl
        exact ⟨this.os, this.tape, this.output, this.size, this.block⟩)
      clear k0 k1 k2 k3 p0 q0 q1 q2 hce2 hce3 hfr hfr3
      try clear hHeld
      go_wp2
      go_roundw
      case rel => exact ⟨k + 1, by omega, by go_num, HAT.out, HOT.out⟩
      case measure => simp [intOf]; omega
    · have hkI : ¬ (k : Int) < (q : Int) := by omega
      have HE : Hid (LayPost w b d (Dk.lay d.kept (at0, y) q) (.returned (.tuple #[])) wr) := Lib.hid (by
        rw [show k = q by omega] at hr
        exact ⟨rfl, hr, (OutP.of (F := fun x => x ∈ blkOf b.K) HB0.out).trans ho (fun _ _ h => h) (fun x _ h => by rw [h, HBK.out]; simp [blkOf])⟩)
      clear hr ho
      go_wp2_with fail
      go_end0
      exact HE.out
end Go.Proofs.Ytoaadallbpelbaa
