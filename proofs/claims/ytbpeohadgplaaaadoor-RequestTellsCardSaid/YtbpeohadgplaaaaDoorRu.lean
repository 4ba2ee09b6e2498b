/- What the document's own Right and Write of requests answer, for any request of at most 50 headers and texts of at most 5000 bytes, the first two of at most 4000 together. -/
import Derived.Test.YtbpeohadgplaaaaDoorRt
namespace Go.Proofs.YtbpeohadgplaaaaDoor
set_option maxRecDepth 8000
open Go.RowKit

theorem refText_0 (m t : List UInt8) (A : Option Addr) (cap : Nat) (l : List Pct.PairL) (b : List UInt8) (w : World) (hl : PCells w w.heap.size A l) (hf : FewR m t l b) :
    Calls Tryd.prog 62 #[.agg #[.string (S m), .string (S t), .slice A l.length cap, .string (S b)], .string ⟨#[]⟩] w (Told w (.returned (.string (S (Req.text [] ⟨m, t, l, b⟩))))) := refText_any m t A cap l b [] w hl hf (by simp)
theorem refText_1 (m t : List UInt8) (A : Option Addr) (cap : Nat) (l : List Pct.PairL) (b : List UInt8) (w : World) (hl : PCells w w.heap.size A l) (hf : FewR m t l b) :
    Calls Tryd.prog 62 #[.agg #[.string (S m), .string (S t), .slice A l.length cap, .string (S b)], .string ⟨#[32]⟩] w (Told w (.returned (.string (S (Req.text [32] ⟨m, t, l, b⟩))))) := refText_any m t A cap l b [32] w hl hf (by simp)

set_option maxHeartbeats 3200000 in
theorem refRight_yes (m t : List UInt8) (A : Option Addr) (cap : Nat) (l : List Pct.PairL) (b : List UInt8) (w : World) (he : EnvR w) (hl : PCells w w.heap.size A l) (hf : FewR m t l b) (hmt : m.length + t.length ≤ 4000) (h : (Req.known m && Req.isTarget t) = true) :
    Calls Tryd.prog 28 #[.agg #[.string (S m), .string (S t), .slice A l.length cap, .string (S b)]] w (Told w (.returned (.bool (Req.right ⟨m, t, l, b⟩)))) := by
  have h0 := HasR.new (m := m) (t := t) (b := b) (cap := cap) hl
  have hb0 := below_alloc w (.cells #[.string (S m), .string (S t), .slice A l.length cap, .string (S b)] 33)
  have he0 := he.next hb0
  have hxl : (topX m t).length ≤ 5000 := by simp [topX]; omega
  have HX := Lib.hid (show topX m t = m ++ [32] ++ t ++ [32, 72, 84, 84, 80, 47, 49, 46, 49] from rfl)
  have a1 : ∀ w'' : World, (Op.stringOp .add (S m) ⟨#[32]⟩).run Tryd.prog w'' = .ok (.string (S (m ++ [32]))) w'' := fun w'' => run_add_S w'' m [32] (by simp; omega)
  obtain ⟨x1, hx1⟩ : ∃ x, x = m ++ [32] := ⟨_, rfl⟩
  have hl1 : x1.length = m.length + 1 := by rw [hx1]; simp
  rw [← hx1] at a1 HX
  have a2 : ∀ w'' : World, (Op.stringOp .add (S x1) (S t)).run Tryd.prog w'' = .ok (.string (S (x1 ++ t))) w'' := fun w'' => run_add_S w'' x1 t (by omega)
  obtain ⟨x2, hx2⟩ : ∃ x, x = x1 ++ t := ⟨_, rfl⟩
  have hxl2 : x2.length = m.length + 1 + t.length := by rw [hx2]; simp; omega
  rw [← hx2] at a2 HX
  have a3 : ∀ w'' : World, (Op.stringOp .add (S x2) ⟨#[32, 72, 84, 84, 80, 47, 49, 46, 49]⟩).run Tryd.prog w'' = .ok (.string (S (topX m t))) w'' := fun w'' => by
    rw [HX.out]
    exact run_add_S w'' x2 [32, 72, 84, 84, 80, 47, 49, 46, 49] (by simp; omega)
  have HFX := Lib.hid (show Req.first (topX m t) = .ok (m, t) by rw [Bool.and_eq_true] at h; exact first_yes h.1 h.2)
  obtain ⟨x, hx⟩ : ∃ x, x = topX m t := ⟨_, rfl⟩
  rw [← hx] at a3 hxl HFX
  have HKT := Lib.hid h
  have HF := Lib.hid hf
  have hn50 := hf.n
  clear hx1 hx2 hx HX h hf
  generalize hW : w.alloc (.cells #[.string (S m), .string (S t), .slice A l.length cap, .string (S b)] 33) = w0 at h0 hb0 he0
  obtain ⟨c0, c1, c2, c3⟩ := h0.cells
  have hz0 : w.heap.size < w0.heap.size := by rw [← hW]; simp
  go_enter Tryd.func28, Tryd.ntmps28
  go_wp2_with fail
  refine (refFirst_ok x m t w0 he0 hxl HFX.out).mono ?_
  rintro e w1 ⟨rfl, hb1⟩
  have hb1' := below_step hb0 hb1
  have h1 := (h0.next hb1).next (below_alloc w1 (.cells #[.string (S m), .string (S t), .slice none 0 0, .string ⟨#[]⟩] 33))
  clear c0 c1 c2 c3 h0 HFX a1 a2 a3
  obtain ⟨c0, c1, c2, c3⟩ := h1.cells
  have Bx : BlkR (w1.alloc (.cells #[.string (S m), .string (S t), .slice none 0 0, .string ⟨#[]⟩] 33)) w1.heap.size m t (.slice none 0 0) [] := BlkR.new w1 m t [] _
  have hzx : w1.heap.size < (w1.alloc (.cells #[.string (S m), .string (S t), .slice none 0 0, .string ⟨#[]⟩] 33)).heap.size := by simp
  have d0 := Bx.c0
  have d1 := Bx.c1
  have hbf := hb1'.alloc hb1'.size (.cells #[.string (S m), .string (S t), .slice none 0 0, .string ⟨#[]⟩] 33)
  have em := beq_self_S m
  have et := beq_self_S t
  clear hW hb1
  by_cases h32 : 32 < l.length
  · have HR := Lib.hid (right_1 (m := m) (t := t) (b := b) h32)
    have g32 : decide ((32 : Int) < (l.length : Int)) = true := decide_eq_true (by omega)
    go_wp2
    generalize w1.alloc (.cells #[.string (S m), .string (S t), .slice none 0 0, .string ⟨#[]⟩] 33) = w2 at h1 c0 c1 c2 c3 Bx d0 d1 hbf hzx
    go_quiet (fail)
    go_wp2
    go_ret
    exact ⟨by rw [HR.out]; rfl, below_drewN hbf _⟩
  · have g32 : decide ((32 : Int) < (l.length : Int)) = false := decide_eq_false (by omega)
    have hLN := fun w' hp => refLength_any m t A cap l b w' hp (by omega) (fun k h => by have := (HF.out.q k h).1; omega) (by
      have := hdrV_len (N := 5000) Req.cl l (fun q hq => by
        obtain ⟨j, hj, rfl⟩ := List.getElem_of_mem hq
        exact (HF.out.q j hj).2)
      omega)
    obtain ⟨nz, hnz⟩ : ∃ nz : Int, lenRes (Req.bodyLen l) = .returned (.int .i64 nz) ∧ ((nz != (b.length : Int)) = false ↔ Req.bodyLen l = some b.length) := by
      cases hbl : Req.bodyLen l with
      | none => exact ⟨-1, rfl, by simp⟩
      | some n => exact ⟨n, rfl, by simp; omega⟩
    rw [hnz.1] at hLN
    have HLN := Lib.hid hLN
    have HNZ := Lib.hid hnz.2
    clear hLN hnz
    go_wp2_with fail
    generalize w1.alloc (.cells #[.string (S m), .string (S t), .slice none 0 0, .string ⟨#[]⟩] 33) = w2 at h1 c0 c1 c2 c3 Bx d0 d1 hbf hzx
    have hU : RAt w w.heap.size w2 := ⟨hbf, h1.lt⟩
    have hV : RAt w2 w1.heap.size w2 := ⟨Below.refl _ _, hzx⟩
    by_cases hnb : (nz != ((S b).size : Int)) = false
    · have HBL := Lib.hid (HNZ.out.1 hnb)
      have hnb2 : (nz == ((S b).size : Int)) = true := by simpa using hnb
      clear HNZ
      go_region_held3 (fun w' => w'.cell? ⟨w.heap.size, 0, none⟩ = some (.string (S m)) ∧ w'.cell? ⟨w.heap.size, 1, none⟩ = some (.string (S t)) ∧ w'.cell? ⟨w.heap.size, 2, none⟩ = some (.slice A l.length cap) ∧ w'.cell? ⟨w.heap.size, 3, none⟩ = some (.string (S b)) ∧ w'.cell? ⟨w1.heap.size, 0, none⟩ = some (.string (S m)) ∧ w'.cell? ⟨w1.heap.size, 1, none⟩ = some (.string (S t)) ∧ RAt w w.heap.size w' ∧ RAt w2 w1.heap.size w')
        (first
          | exact ⟨c0, c1, c2, c3, d0, d1, RAt.drew hU, RAt.drew hV⟩
          | (go_split_ands
             refine ⟨RAt.cell (b := w.heap.size) (w := w) ‹RAt w w.heap.size _› hb ‹_›, RAt.cell (w := w) ‹RAt w w.heap.size _› hb ‹_›, RAt.cell (w := w) ‹RAt w w.heap.size _› hb ‹_›, RAt.cell (w := w) ‹RAt w w.heap.size _› hb ‹_›, RAt.cell (w := w2) ‹RAt w2 w1.heap.size _› hb ‹_›, RAt.cell (w := w2) ‹RAt w2 w1.heap.size _› hb ‹_›, RAt.call ‹RAt w w.heap.size _› hb, RAt.call ‹RAt w2 w1.heap.size _› hb⟩))
        (first
          | (go_at_call 58; go_split_ands; refine (HLN.out _ (hl.next (‹RAt w w.heap.size _›).1)).mono ?_; rintro e w' ⟨rfl, hb⟩))
      rename_i hH
      have h3 := h1.next hH.2.2.2.2.2.2.2.1
      have hb3 := hH.2.2.2.2.2.2.1.1
      clear hb hH hU hV c0 c1 c2 c3 d0 d1 Bx hbf h1 hnb hnb2 HLN em et hzx
      go_wp2
      go_loopw [5] (fun i wr => ∃ k : Nat, k ≤ l.length ∧ i = .int .i64 k ∧ (∀ j (hj : j < l.length), j < k → Req.headOk l[j] = true) ∧ Below w'.heap.size w' wr) (fun i _ => l.length - (intOf i).toNat)
      case atStart => exact ⟨0, Nat.zero_le _, rfl, fun j _ hj => absurd hj (by omega), Below.refl _ _⟩
      case round =>
        obtain ⟨k, hk, rfl, hall, hbr⟩ := hrel
        have HALL := Lib.hid hall
        clear hall
        have hr := h3.next hbr
        obtain ⟨c0, c1, c2, c3⟩ := hr.cells
        have hbw := below_step hb3 hbr
        by_cases hlt : k < l.length
        · obtain ⟨ab, off, hA, hbb, hcl⟩ := hr.row (by omega)
          obtain ⟨e0, e1⟩ := hcl k hlt
          have hql := HF.out.q k hlt
          have HOK := Lib.hid (show Req.headOk l[k] = (Req.token l[k].1 && Req.isText l[k].2) from rfl)
          have HBAD := Lib.hid (show Req.headOk l[k] = false → Req.right ⟨m, t, l, b⟩ = false from fun h => right_5 (all_badL hlt h))
          clear hcl
          obtain ⟨y, hy⟩ : ∃ y, y = l[k].1 := ⟨_, rfl⟩
          obtain ⟨z, hz⟩ : ∃ z, z = l[k].2 := ⟨_, rfl⟩
          rw [← hy] at e0 hql HOK
          rw [← hz] at e1 hql HOK
          clear hy hz
          have i0 : (0 : Int) ≤ (k : Int) := by omega
          have i1 : (k : Int) < (l.length : Int) := by omega
          have hTok := fun w'' => refToken_any y w'' (by omega)
          have hShn := fun w'' => shown_any z 32 32 w'' (by omega) rfl
          have hTrm := fun w'' => refTrim_any z w'' (by omega)
          have HTT := Lib.hid (fun h => text_trim (y := z) h)
          have hbq := hbr.alloc hbr.size (.cells #[.string (S y), .string (S z)] 51)
          have n0 := (Blk2.new wr (S y) (S z)).cell0
          have n1 := (Blk2.new wr (S y) (S z)).cell1
          subst hA
          cases ht : Req.token y with
          | false =>
            have HR := Lib.hid (HBAD.out (by rw [HOK.out, ht]; rfl))
            rw [ht] at hTok
            clear ht
            go_wp2
            generalize wr.alloc (.cells #[.string (S y), .string (S z)] 51) = wq at hbq n0 n1
            go_quiet ((go_at_call 34; exact Calls.quiet_of_same ((hTok _).mono fun _ _ ⟨h1, h2⟩ => ⟨h1, h2.symm⟩)))
            go_wp2
            go_ret
            exact ⟨by rw [HR.out]; rfl, below_drewN (below_step hb3 hbq) _⟩
          | true =>
            rw [ht] at hTok
            cases hw : Req.within 32 126 z with
            | false =>
              have HR := Lib.hid (HBAD.out (by rw [HOK.out]; unfold Req.isText; rw [hw]; simp))
              rw [hw] at hShn
              clear ht hw
              go_wp2
              generalize wr.alloc (.cells #[.string (S y), .string (S z)] 51) = wq at hbq n0 n1
              go_quiet ((first
                | (go_at_call 34; exact Calls.quiet_of_same ((hTok _).mono fun _ _ ⟨h1, h2⟩ => ⟨h1, h2.symm⟩))
                | (go_at_call 33; exact Calls.quiet_of_same ((hShn _).mono fun _ _ ⟨h1, h2⟩ => ⟨h1, h2.symm⟩))))
              go_wp2
              go_ret
              exact ⟨by rw [HR.out]; rfl, below_drewN (below_step hb3 hbq) _⟩
            | true =>
              rw [hw] at hShn
              by_cases htr : Req.trim z = z
              · have HT := Lib.hid (show Req.headOk l[k] = true by rw [HOK.out, ht, HTT.out hw, decide_eq_true htr]; rfl)
                rw [htr] at hTrm
                have ez := beq_self_S z
                clear ht hw htr
                go_wp2
                generalize wr.alloc (.cells #[.string (S y), .string (S z)] 51) = wq at hbq n0 n1
                go_quiet ((first
                  | (go_at_call 34; exact Calls.quiet_of_same ((hTok _).mono fun _ _ ⟨h1, h2⟩ => ⟨h1, h2.symm⟩))
                  | (go_at_call 33; exact Calls.quiet_of_same ((hShn _).mono fun _ _ ⟨h1, h2⟩ => ⟨h1, h2.symm⟩))
                  | (go_at_call 57; exact Calls.quiet_of_same ((hTrm _).mono fun _ _ ⟨h1, h2⟩ => ⟨h1, h2.symm⟩))))
                go_wp2
                go_roundw
                case rel =>
                  refine ⟨k + 1, by omega, by go_num, fun j hj hjk => ?_, below_drewN hbq _⟩
                  by_cases e : j = k
                  · subst e; exact HT.out
                  · exact HALL.out j hj (by omega)
                case measure => simp [intOf]; omega
              · have HR := Lib.hid (HBAD.out (by rw [HOK.out, HTT.out hw, decide_eq_false htr]; simp))
                have ez : ((S (Req.trim z)).toList == (S z).toList) = false := by rw [S_list, S_list]; exact beq_eq_false_iff_ne.2 htr
                clear ht hw htr
                go_wp2
                generalize wr.alloc (.cells #[.string (S y), .string (S z)] 51) = wq at hbq n0 n1
                go_quiet ((first
                  | (go_at_call 34; exact Calls.quiet_of_same ((hTok _).mono fun _ _ ⟨h1, h2⟩ => ⟨h1, h2.symm⟩))
                  | (go_at_call 33; exact Calls.quiet_of_same ((hShn _).mono fun _ _ ⟨h1, h2⟩ => ⟨h1, h2.symm⟩))
                  | (go_at_call 57; exact Calls.quiet_of_same ((hTrm _).mono fun _ _ ⟨h1, h2⟩ => ⟨h1, h2.symm⟩))))
                go_wp2
                go_ret
                exact ⟨by rw [HR.out]; rfl, below_drewN (below_step hb3 hbq) _⟩
        · have HR := Lib.hid (right_8 (m := m) (t := t) (b := b) h32 HKT.out (all_getL fun j hj => HALL.out j hj (by omega)) HBL.out)
          have HTL := Lib.hid (show (Req.text [] ⟨m, t, l, b⟩).length = Req.fewest ⟨m, t, l, b⟩ by rw [Req.text_len]; simp)
          go_wp2_with fail
          refine (refText_0 m t A cap l b wr hr.row HF.out).mono ?_
          rintro e w5 ⟨rfl, hb5⟩
          obtain ⟨tx, htx⟩ : ∃ tx, tx = Req.text [] ⟨m, t, l, b⟩ := ⟨_, rfl⟩
          rw [← htx] at HTL ⊢
          have htz : (S tx).size = tx.length := rfl
          have HTZ := Lib.hid htz
          clear htx htz
          go_wp2
          go_ret
          refine ⟨?_, below_step hbw hb5⟩
          rw [HR.out, ← HTL.out]
          exact ret_bool (by
            have := HTZ.out
            rw [Bool.eq_iff_iff, decide_eq_true_eq, decide_eq_true_eq]
            omega)
    · have hnb' : (nz != ((S b).size : Int)) = true := by simpa using hnb
      have hnb2 : (nz == ((S b).size : Int)) = false := by simpa using hnb'
      have HR := Lib.hid (right_7 (m := m) (t := t) (b := b) (l := l) (fun e => hnb (HNZ.out.2 e)))
      clear hnb
      go_region_held3 (fun w' => w'.cell? ⟨w.heap.size, 0, none⟩ = some (.string (S m)) ∧ w'.cell? ⟨w.heap.size, 1, none⟩ = some (.string (S t)) ∧ w'.cell? ⟨w.heap.size, 2, none⟩ = some (.slice A l.length cap) ∧ w'.cell? ⟨w.heap.size, 3, none⟩ = some (.string (S b)) ∧ w'.cell? ⟨w1.heap.size, 0, none⟩ = some (.string (S m)) ∧ w'.cell? ⟨w1.heap.size, 1, none⟩ = some (.string (S t)) ∧ RAt w w.heap.size w' ∧ RAt w2 w1.heap.size w')
        (first
          | exact ⟨c0, c1, c2, c3, d0, d1, RAt.drew hU, RAt.drew hV⟩
          | (go_split_ands
             refine ⟨RAt.cell (b := w.heap.size) (w := w) ‹RAt w w.heap.size _› hb ‹_›, RAt.cell (w := w) ‹RAt w w.heap.size _› hb ‹_›, RAt.cell (w := w) ‹RAt w w.heap.size _› hb ‹_›, RAt.cell (w := w) ‹RAt w w.heap.size _› hb ‹_›, RAt.cell (w := w2) ‹RAt w2 w1.heap.size _› hb ‹_›, RAt.cell (w := w2) ‹RAt w2 w1.heap.size _› hb ‹_›, RAt.call ‹RAt w w.heap.size _› hb, RAt.call ‹RAt w2 w1.heap.size _› hb⟩))
        (first
          | (go_at_call 58; go_split_ands; refine (HLN.out _ (hl.next (‹RAt w w.heap.size _›).1)).mono ?_; rintro e w' ⟨rfl, hb⟩))
      rename_i hH
      have hbw := hH.2.2.2.2.2.2.1.1
      clear hb
      go_wp2
      go_ret
      exact ⟨by rw [HR.out]; rfl, hbw⟩
end Go.Proofs.YtbpeohadgplaaaaDoor
