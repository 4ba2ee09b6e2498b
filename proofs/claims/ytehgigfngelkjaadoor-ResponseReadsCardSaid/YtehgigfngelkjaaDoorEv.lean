/- What the document's Read of responses answers, for any text of at most 1000 bytes. -/
import Derived.Test.YtehgigfngelkjaaDoorEs
import Derived.Test.YtehgigfngelkjaaDoorRspRef
import Derived.Deep.RegionLaw
namespace Go.Proofs.YtehgigfngelkjaaDoor
set_option maxRecDepth 8000
open Go.RowKit

theorem zero_facts {w wr : World} {g : Nat} (b0 : BlkR wr g (.int .i64 0) (.slice none 0 0) (.string ⟨#[]⟩)) (b1 : BlkR wr (g + 1) (.int .i64 0) (.slice none 0 0) (.string ⟨#[]⟩)) (hb : Below g w wr) :
    wr.cell? ⟨g + 1, 0, none⟩ = some (.int .i64 0) ∧ wr.cell? ⟨g + 1, 1, none⟩ = some (.slice none 0 0) ∧ wr.cell? ⟨g + 1, 2, none⟩ = some (.string ⟨#[]⟩) ∧
    wr.cell? ⟨g, 0, none⟩ = some (.int .i64 0) ∧ wr.frozen? ⟨g, 0, none⟩ = false ∧
    (wr.setCell ⟨g, 0, none⟩ (.int .i64 0)).cell? ⟨g, 1, none⟩ = some (.slice none 0 0) ∧ (wr.setCell ⟨g, 0, none⟩ (.int .i64 0)).frozen? ⟨g, 1, none⟩ = false ∧
    ((wr.setCell ⟨g, 0, none⟩ (.int .i64 0)).setCell ⟨g, 1, none⟩ (.slice none 0 0)).cell? ⟨g, 2, none⟩ = some (.string ⟨#[]⟩) ∧ ((wr.setCell ⟨g, 0, none⟩ (.int .i64 0)).setCell ⟨g, 1, none⟩ (.slice none 0 0)).frozen? ⟨g, 2, none⟩ = false ∧
    (((wr.setCell ⟨g, 0, none⟩ (.int .i64 0)).setCell ⟨g, 1, none⟩ (.slice none 0 0)).setCell ⟨g, 2, none⟩ (.string ⟨#[]⟩)).cell? ⟨g, 0, none⟩ = some (.int .i64 0) ∧
    (((wr.setCell ⟨g, 0, none⟩ (.int .i64 0)).setCell ⟨g, 1, none⟩ (.slice none 0 0)).setCell ⟨g, 2, none⟩ (.string ⟨#[]⟩)).cell? ⟨g, 1, none⟩ = some (.slice none 0 0) ∧
    (((wr.setCell ⟨g, 0, none⟩ (.int .i64 0)).setCell ⟨g, 1, none⟩ (.slice none 0 0)).setCell ⟨g, 2, none⟩ (.string ⟨#[]⟩)).cell? ⟨g, 2, none⟩ = some (.string ⟨#[]⟩) ∧
    Below g w (((wr.setCell ⟨g, 0, none⟩ (.int .i64 0)).setCell ⟨g, 1, none⟩ (.slice none 0 0)).setCell ⟨g, 2, none⟩ (.string ⟨#[]⟩)) := by
  have k1 := b0.set0 (.int .i64 0)
  have k2 := k1.set1 (.slice none 0 0)
  have k3 := k2.set2 (.string ⟨#[]⟩)
  exact ⟨b1.c0, b1.c1, b1.c2, b0.c0, b0.fr 0, k1.c1, k1.fr 1, k2.c2, k2.fr 2, k3.c0, k3.c1, k3.c2, ((hb.setCell (p := ⟨g, 0, none⟩) (Nat.le_refl _) _).setCell (p := ⟨g, 1, none⟩) (Nat.le_refl _) _).setCell (p := ⟨g, 2, none⟩) (Nat.le_refl _) _⟩
theorem keepA {w1 w' : World} {p : Addr} {v : Value} (h : Below w1.heap.size w1 w') (hB : p.block < w1.heap.size) (d1 : w1.cell? p = some v) : w'.cell? p = some v ∧ Below w1.heap.size w1 w' :=
  ⟨(h.cell (p := p) hB).trans d1, h⟩
theorem kn_facts : ∀ k, k < 7 → 0 ≤ Rsp.kn.getD k 0 ∧ Rsp.kn.getD k 0 ≤ 1000 ∧ (Rsp.reason (Rsp.kn.getD k 0)).length ≤ 30 := by decide +kernel
theorem cut_at {l : List UInt8} {k : Nat} (h : Lib.NoOcc l Rsp.sep2 k) (hk : k + 1 < l.length) (h1 : l[k] = 58) (h2 : l[k + 1] = 32) : Lib.cut l Rsp.sep2 = (l.take k, l.drop (k + 2), true) := by
  have ho : Lib.occAt l Rsp.sep2 k = true := by
    unfold Lib.occAt
    rw [List.drop_eq_getElem_cons (by omega), h1, List.drop_eq_getElem_cons hk, h2]
    simp [Rsp.sep2, List.isPrefixOf]
  have hi := Lib.index_hit h (by omega) ho
  unfold Lib.cut
  rw [hi, if_pos (by omega)]
  simp [Rsp.sep2]
theorem cut_past {l : List UInt8} {k : Nat} (h : Lib.NoOcc l Rsp.sep2 k) (hk : ¬ k + 1 < l.length) : (Lib.cut l Rsp.sep2).2.2 = false := by
  have hi := Lib.index_past (by decide) h (show l.length < k + Rsp.sep2.length by show l.length < k + 2; omega)
  unfold Lib.cut
  rw [hi, if_neg (by decide)]
theorem noOcc_next {l : List UInt8} {k : Nat} (h : Lib.NoOcc l Rsp.sep2 k) (hk : k + 1 < l.length) (hn : ¬ (l[k] = 58 ∧ l[k + 1] = 32)) : Lib.NoOcc l Rsp.sep2 (k + 1) := by
  intro j hj
  by_cases e : j = k
  · subst e
    unfold Lib.occAt
    rw [List.drop_eq_getElem_cons (by omega), List.drop_eq_getElem_cons hk]
    show ((58 : UInt8) == l[j] && ((32 : UInt8) == l[j + 1] && List.isPrefixOf [] _)) = false
    cases ha : (58 : UInt8) == l[j] with
    | false => rfl
    | true =>
      cases hb : (32 : UInt8) == l[j + 1] with
      | false => rfl
      | true => exact absurd ⟨(beq_iff_eq.1 ha).symm, (beq_iff_eq.1 hb).symm⟩ hn
  · exact h j (by omega)
section
variable {f : Nat} {r r' l c1 c2 : List UInt8} {hs : List Pct.PairL} {sz : List UInt8}
theorem rd_none (hl : Req.line r = none) : Rsp.rdGo (f + 1) r hs sz = none := by rw [Rsp.rdGo_line, hl]
theorem rd_end (hl : Req.line r = some (l, r')) (h : l = []) : Rsp.rdGo (f + 1) r hs sz = some (hs, sz, r') := by rw [Rsp.rdGo_line, hl]; simp [h]
theorem rd_more (hl : Req.line r = some (l, r')) (h : l ≠ []) (hz : sz ≠ []) : Rsp.rdGo (f + 1) r hs sz = none := by rw [Rsp.rdGo_line, hl]; simp [h, hz]
theorem rd_nocut (hl : Req.line r = some (l, r')) (h : l ≠ []) (hc : (Lib.cut l Rsp.sep2).2.2 = false) : Rsp.rdGo (f + 1) r hs [] = none := by rw [Rsp.rdGo_line, hl]; simp [h, hc]
theorem rd_len0 (hl : Req.line r = some (l, r')) (h : l ≠ []) (hc : Lib.cut l Rsp.sep2 = (c1, c2, true)) (h1 : c1 = Rsp.lenName) (h2 : c2 = []) : Rsp.rdGo (f + 1) r hs [] = none := by rw [Rsp.rdGo_line, hl]; simp [h, hc, h1, h2]
theorem rd_len (hl : Req.line r = some (l, r')) (h : l ≠ []) (hc : Lib.cut l Rsp.sep2 = (c1, c2, true)) (h1 : c1 = Rsp.lenName) (h2 : c2 ≠ []) : Rsp.rdGo (f + 1) r hs [] = Rsp.rdGo f r' hs c2 := by rw [Rsp.rdGo_line, hl]; simp [h, hc, h1, h2]
theorem rd_hdr (hl : Req.line r = some (l, r')) (h : l ≠ []) (hc : Lib.cut l Rsp.sep2 = (c1, c2, true)) (h1 : c1 ≠ Rsp.lenName) : Rsp.rdGo (f + 1) r hs [] = Rsp.rdGo f r' (hs ++ [(c1, c2)]) [] := by
  rw [Rsp.rdGo_line, hl]
  simp [h, hc, h1, Rsp.hdrOf]
end
theorem get_of {x : ByteArray} {l : List UInt8} (h : x.data.toList = l) (k : Nat) (hk : k < x.size) (hk' : k < l.length) : l[k] = x[k] := by
  subst h
  rfl

set_option maxHeartbeats 6400000 in
theorem refRead_any (t : List UInt8) (w : World) (hs : t.length ≤ 1000) :
    Calls Tryd.prog 21 #[.string (S t)] w (ReadPost t w) := by
  obtain ⟨i0, hi0, hz0, hz1, hz2⟩ := info_parts Tryd.infoPair
  have HRD := Lib.hid (show Rsp.read t = match Req.line t with | none => none | some (l0, r) => Rsp.refEnd l0 (Rsp.rdGo (r.length + 1) r [] []) from (Rsp.refRead_same t).symm)
  obtain ⟨v, hv⟩ : ∃ v, v = S t := ⟨_, rfl⟩
  have hvl : v.data.toList = t := by rw [hv]; exact S_toList t
  have hvz : v.size = t.length := by rw [hv]; rfl
  have HVL := Lib.hid hvl
  have hLn := fun (p : Nat) (hp : p ≤ t.length) (w' : World) => refLine_any v p w' (by omega) (by omega)
  rw [hvl] at hLn
  rw [← hv]
  clear hv hvl
  go_enter Tryd.func21, Tryd.ntmps21
  go_upto_region 2 with fail
  have B0 : BlkR ((w.alloc (.cells #[.int .i64 0, .slice none 0 0, .string ⟨#[]⟩] 24)).alloc (.cells #[.int .i64 0, .slice none 0 0, .string ⟨#[]⟩] 24)) w.heap.size (.int .i64 0) (.slice none 0 0) (.string ⟨#[]⟩) := (Below.heap_alloc _ _ _ (by simp)).trans (heap_alloc_new w _)
  have B1 : BlkR ((w.alloc (.cells #[.int .i64 0, .slice none 0 0, .string ⟨#[]⟩] 24)).alloc (.cells #[.int .i64 0, .slice none 0 0, .string ⟨#[]⟩] 24)) (w.heap.size + 1) (.int .i64 0) (.slice none 0 0) (.string ⟨#[]⟩) := by
    have h := heap_alloc_new (w.alloc (.cells #[.int .i64 0, .slice none 0 0, .string ⟨#[]⟩] 24)) (.cells #[.int .i64 0, .slice none 0 0, .string ⟨#[]⟩] 24)
    have hz : (w.alloc (.cells #[.int .i64 0, .slice none 0 0, .string ⟨#[]⟩] 24)).heap.size = w.heap.size + 1 := by simp
    rw [hz] at h
    exact h
  have hbW : Below w.heap.size w ((w.alloc (.cells #[.int .i64 0, .slice none 0 0, .string ⟨#[]⟩] 24)).alloc (.cells #[.int .i64 0, .slice none 0 0, .string ⟨#[]⟩] 24)) := ((Below.refl _ _).alloc (Nat.le_refl _) _).alloc (by simp) _
  have hg1 : w.heap.size + 1 < ((w.alloc (.cells #[.int .i64 0, .slice none 0 0, .string ⟨#[]⟩] 24)).alloc (.cells #[.int .i64 0, .slice none 0 0, .string ⟨#[]⟩] 24)).heap.size := by simp
  generalize ((w.alloc (.cells #[.int .i64 0, .slice none 0 0, .string ⟨#[]⟩] 24)).alloc (.cells #[.int .i64 0, .slice none 0 0, .string ⟨#[]⟩] 24)) = w1 at B0 B1 hbW hg1 ⊢
  have hg0 : w.heap.size < w1.heap.size := by omega
  have hgW : w.heap.size ≤ w1.heap.size := by omega
  cases hl : Req.line t with
  | none =>
    have HN := Lib.hid (show Rsp.read t = none by rw [HRD.out, hl])
    have hL : Calls Tryd.prog 26 #[.string v, .int .i64 0] w1 fun e w'' => e = .returned (.tuple #[.string ⟨#[]⟩, .int .i64 (-1)]) ∧ w1 = w'' :=
      (hLn 0 (Nat.zero_le _) w1).mono fun e w'' ⟨h1, h2⟩ => ⟨by rw [h1, List.drop_zero, hl]; rfl, h2⟩
    clear hl hLn
    have hbG : Below w1.heap.size w1 w1 := Below.refl _ _
    go_wp2_with fail
    refine hL.mono ?_
    rintro e w2 ⟨rfl, rfl⟩
    have bz0 := (hbG.block _ hg0).trans B0
    have bz1 := (hbG.block _ hg1).trans B1
    obtain ⟨z0, z1, z2, c0, f0, c1, f1, c2, f2, q0, q1, q2, hbb⟩ := zero_facts bz0 bz1 (hbW.trans (hbG.mono hgW))
    clear bz0 bz1 hbG
    go_wp2
    refine bodyPost_ret (v := .tuple #[.agg #[.int .i64 0, .slice none 0 0, .string (S [])], .int .i64 10]) ?_ rfl ⟨0, .slice none 0 0, [], [], 10, rfl, wr_nil _, hbb, .inr ⟨rfl, HN.out, rfl, rfl, rfl⟩⟩
    simp [results, Tryd.results21, go_sem, q0, q1, q2]
    rfl
  | some p =>
    obtain ⟨l0, r⟩ := p
    have hlen := Req.line_len hl
    have hr : r = t.drop (l0.length + 2) := by
      have := Req.line_parts hl
      rw [this, show l0 ++ 13 :: 10 :: r = l0 ++ ([13, 10] ++ r) from rfl, ← List.drop_drop, List.drop_left]
      rfl
    have hrd : Rsp.read t = Rsp.refEnd l0 (Rsp.rdGo (r.length + 1) r [] []) := by rw [HRD.out, hl]
    rw [hr] at hrd
    have HRE := Lib.hid hrd
    have hL : Calls Tryd.prog 26 #[.string v, .int .i64 0] w1 fun e w'' => e = .returned (.tuple #[.string (S l0), .int .i64 ((l0.length : Int) + 2)]) ∧ w1 = w'' :=
      (hLn 0 (Nat.zero_le _) w1).mono fun e w'' ⟨h1, h2⟩ => ⟨by rw [h1, List.drop_zero, hl]; unfold lineRes; simp, h2⟩
    have hp0 : l0.length + 2 ≤ t.length := by omega
    clear hl hr hrd HRD hlen
    have hat0 : ¬ (l0.length : Int) + 2 < 0 := by omega
    go_wp2_with fail
    refine hL.mono ?_
    rintro e w2 ⟨rfl, rfl⟩
    clear hL
    go_upto_region 6 with fail
    have B7 : BlkR (w1.alloc (.cells #[.int .i64 0, .slice none 0 0, .string ⟨#[]⟩] 24)) w1.heap.size (.int .i64 0) (.slice none 0 0) (.string ⟨#[]⟩) := heap_alloc_new w1 _
    have hb7 : Below w1.heap.size w1 (w1.alloc (.cells #[.int .i64 0, .slice none 0 0, .string ⟨#[]⟩] 24)) := (Below.refl _ _).alloc (Nat.le_refl _) _
    have hs7 : w1.heap.size < (w1.alloc (.cells #[.int .i64 0, .slice none 0 0, .string ⟨#[]⟩] 24)).heap.size := by simp
    generalize (w1.alloc (.cells #[.int .i64 0, .slice none 0 0, .string ⟨#[]⟩] 24)) = w2 at B7 hb7 hs7 ⊢
    go_upto_region 7 with fail
    have hK : ∀ k, k < 7 → (w2.alloc (.cells #[.int .i64 200, .int .i64 302, .int .i64 400, .int .i64 403, .int .i64 404, .int .i64 405, .int .i64 503] 3)).cell? ⟨w2.heap.size, k, none⟩ = some (.int .i64 (Rsp.kn.getD k 0)) := by
      intro k hk
      rw [cell_of_row _ w2.heap.size k _ _ _ (heap_alloc_new w2 _)]
      match k, hk with
      | 0, _ => rfl
      | 1, _ => rfl
      | 2, _ => rfl
      | 3, _ => rfl
      | 4, _ => rfl
      | 5, _ => rfl
      | 6, _ => rfl
    have hb8 : Below w2.heap.size w2 (w2.alloc (.cells #[.int .i64 200, .int .i64 302, .int .i64 400, .int .i64 403, .int .i64 404, .int .i64 405, .int .i64 503] 3)) := (Below.refl _ _).alloc (Nat.le_refl _) _
    have hs8 : w2.heap.size < (w2.alloc (.cells #[.int .i64 200, .int .i64 302, .int .i64 400, .int .i64 403, .int .i64 404, .int .i64 405, .int .i64 503] 3)).heap.size := by simp
    generalize (w2.alloc (.cells #[.int .i64 200, .int .i64 302, .int .i64 400, .int .i64 403, .int .i64 404, .int .i64 405, .int .i64 503] 3)) = w3 at hK hb8 hs8 ⊢
    have B8 : BlkR w3 w1.heap.size (.int .i64 0) (.slice none 0 0) (.string ⟨#[]⟩) := (hb8.block _ hs7).trans B7
    have hb9 : Below w1.heap.size w1 w3 := hb7.trans (hb8.mono hb7.size)
    clear B7 hb7 hb8
    go_wp2
    go_loopw [9] (fun i wr => ∃ k : Nat, k ≤ 7 ∧ i = .int .i64 k ∧ BlkR wr w1.heap.size (.int .i64 (Rsp.stUp l0 k)) (.slice none 0 0) (.string ⟨#[]⟩) ∧ (∀ k, k < 7 → wr.cell? ⟨w2.heap.size, k, none⟩ = some (.int .i64 (Rsp.kn.getD k 0))) ∧ Below w1.heap.size w1 wr ∧ w2.heap.size < wr.heap.size) (fun i _ => 7 - (intOf i).toNat)
    case atStart => exact ⟨0, Nat.zero_le _, rfl, B8, hK, hb9, hs8⟩
    case round =>
      obtain ⟨k, hk, rfl, hB, hKn, hb, hsz⟩ := hrel
      clear B8 hK hb9 hs8
      by_cases hlt : k < 7
      · have hc := hKn k hlt
        have HKN := Lib.hid hKn
        obtain ⟨p0, p1, p2⟩ := kn_facts k hlt
        have HS1 := Lib.hid (show Rsp.stUp l0 (k + 1) = if l0 = Rsp.firstLine (Rsp.kn.getD k 0) then Rsp.kn.getD k 0 else Rsp.stUp l0 k from rfl)
        clear hKn
        generalize Rsp.kn.getD k 0 = x at hc p0 p1 p2 HS1
        have hD := fun w' : World => refDigits_age x w' p0 (by omega)
        have hRs := fun w' : World => refReason_any x w'
        have hDl : (Lib.decDigits x.toNat).length ≤ 100 := dec_len x (by omega)
        have HFI := Lib.hid (show Rsp.firstLine x = [72, 84, 84, 80, 47, 49, 46, 49, 32] ++ Lib.decDigits x.toNat ++ [32] ++ Rsp.reason x from rfl)
        generalize Lib.decDigits x.toNat = D at hD hDl HFI
        generalize Rsp.reason x = R at hRs p2 HFI
        have a1 := fun w' : World => (show (Op.stringOp .add ⟨#[72, 84, 84, 80, 47, 49, 46, 49, 32]⟩ (S D)).run Tryd.prog w' = .ok (.string (S ([72, 84, 84, 80, 47, 49, 46, 49, 32] ++ D))) w' from run_add_S w' [72, 84, 84, 80, 47, 49, 46, 49, 32] D (by simp; omega))
        have a2 := fun w' : World => (show (Op.stringOp .add (S ([72, 84, 84, 80, 47, 49, 46, 49, 32] ++ D)) ⟨#[32]⟩).run Tryd.prog w' = .ok (.string (S ([72, 84, 84, 80, 47, 49, 46, 49, 32] ++ D ++ [32]))) w' from run_add_S w' _ [32] (by simp; omega))
        have a3 := fun w' : World => run_add_S w' ([72, 84, 84, 80, 47, 49, 46, 49, 32] ++ D ++ [32]) R (by simp; omega)
        rw [HFI.out] at HS1
        generalize ([72, 84, 84, 80, 47, 49, 46, 49, 32] ++ D ++ [32] ++ R : List UInt8) = F at a3 HS1
        generalize ([72, 84, 84, 80, 47, 49, 46, 49, 32] ++ D ++ [32] : List UInt8) = x2 at a2 a3
        generalize ([72, 84, 84, 80, 47, 49, 46, 49, 32] ++ D : List UInt8) = x1 at a1 a2
        clear HFI
        have hcmp : ((S l0).toList == (S F).toList) = decide (l0 = F) := by rw [S_list, S_list]; exact Bool.eq_iff_iff.2 (by simp)
        have j0 : (0 : Int) ≤ (k : Int) := by omega
        have j1 : (k : Int) < 7 := by omega
        go_wp2
        go_region_held3 (fun w' => w'.cell? ⟨w2.heap.size, k, none⟩ = some (.int .i64 x) ∧ Below wr.heap.size wr w')
          (first
            | exact keepA hb13 hsz hc
            | exact keepA (Below.drew (Below.refl _ _)) hsz hc)
          (first
            | (go_at_call 29; refine (hD _).mono ?_; rintro e w11 ⟨rfl, hb11⟩; have hb13 : Below wr.heap.size wr w11 := (Below.drew (Below.refl wr.heap.size wr)).trans hb11)
            | (go_at_call 16; refine (hRs _).mono ?_; rintro e w12 ⟨rfl, rfl⟩))
        try clear hH
        have hsz0 : w1.heap.size < wr.heap.size := by have := hs7; omega
        have hB2 : BlkR w11 w1.heap.size (.int .i64 (Rsp.stUp l0 k)) (.slice none 0 0) (.string ⟨#[]⟩) := (hb13.block _ hsz0).trans hB
        have hK2 : ∀ k, k < 7 → w11.cell? ⟨w2.heap.size, k, none⟩ = some (.int .i64 (Rsp.kn.getD k 0)) := fun k hk => (hb13.cell (p := ⟨w2.heap.size, k, none⟩) hsz).trans (HKN.out k hk)
        have hbk : Below w1.heap.size w1 w11 := hb.trans (hb13.mono hb.size)
        have hsk : w2.heap.size < w11.heap.size := Nat.lt_of_lt_of_le hsz hb13.size
        have hcx : w11.cell? ⟨w2.heap.size, k, none⟩ = some (.int .i64 x) := (hb13.cell (p := ⟨w2.heap.size, k, none⟩) hsz).trans hc
        have HK2 := Lib.hid hK2
        clear hB hb hb11 hb13 a1 a2 a3 hD hRs hDl HKN hK2 hc
        by_cases he : l0 = F
        · have HSE := Lib.hid (show Rsp.stUp l0 (k + 1) = x by rw [HS1.out, if_pos he])
          have e0 := hB2.c0
          have f0 := hB2.fr 0
          clear hcmp
          subst he
          go_wp2
          go_roundw
          case rel =>
            refine ⟨k + 1, by omega, by go_num, by rw [HSE.out]; exact hB2.set0 _, fun k hk => ?_, hbk.setCell (p := ⟨w1.heap.size, 0, none⟩) (Nat.le_refl _) _, by simpa using hsk⟩
            rw [← HK2.out k hk]
            exact World.cell?_setCell_other _ _ _ _ (fun e => by have := congrArg Addr.block e; simp only at this; omega)
          case measure => simp [intOf]; omega
        · have HSE := Lib.hid (show Rsp.stUp l0 (k + 1) = Rsp.stUp l0 k by rw [HS1.out, if_neg he])
          clear hcmp
          go_wp2
          go_roundw
          case rel => exact ⟨k + 1, by omega, by go_num, by rw [HSE.out]; exact hB2, HK2.out, hbk, hsk⟩
          case measure => simp [intOf]; omega
      · obtain ⟨k9, rfl⟩ : ∃ k9 : Nat, k9 = k := ⟨_, rfl⟩
        have hk7 : k9 = 7 := by omega
        have hkx : ¬ (k9 : Int) < 7 := by omega
        have hsz0 : w1.heap.size < wr.heap.size := by have := hs7; omega
        rw [show Rsp.stUp l0 k9 = Rsp.stUp l0 7 by rw [hk7]] at hB
        clear hKn hs7 hk hlt hk7
        obtain ⟨wo, rfl⟩ : ∃ wo : World, wo = wr := ⟨_, rfl⟩
        have hend : ∀ o, Rsp.refEnd l0 o = match o with | none => none | some (hs, sz, b) => if Rsp.right (Rsp.stUp l0 7) hs b = true ∧ sz = Lib.decDigits b.length then some (Rsp.stUp l0 7, hs, b) else none := fun o => rfl
        obtain ⟨st, hst⟩ : ∃ st, st = Rsp.stUp l0 7 := ⟨_, rfl⟩
        rw [← hst] at hB hend
        have HEND := Lib.hid hend
        clear hst hend
        have hpos : ((l0.length : Int) + 2) = ((l0.length + 2 : Nat) : Int) := by simp
        have HPOS := Lib.hid hpos
        clear hpos hat0
        go_wp2
        clear hkx
        go_loopw [6, 10] (fun i sv wr => ∃ (p f : Nat) (hs : List Pct.PairL) (A : Option Addr) (cap : Nat) (sz : List UInt8), p ≤ t.length ∧ i = .int .i64 (p : Int) ∧ sv = .string (S sz) ∧ (t.drop p).length < f ∧ Rsp.read t = Rsp.refEnd l0 (Rsp.rdGo f (t.drop p) hs sz) ∧ (∀ q ∈ hs, q.1.length ≤ 1000 ∧ q.2.length ≤ 1000) ∧ hs.length ≤ p ∧ BlkR wr w1.heap.size (.int .i64 st) (.slice A hs.length cap) (.string ⟨#[]⟩) ∧ PRow (w1.heap.size + 1) wr (.slice A hs.length cap) hs ∧ Below w1.heap.size w1 wr ∧ w1.heap.size < wr.heap.size) (fun i _ _ => t.length + 1 - (intOf i).toNat)
        case atStart => exact ⟨l0.length + 2, (t.drop (l0.length + 2)).length + 1, [], none, 0, [], hp0, by rw [HPOS.out], rfl, Nat.lt_succ_self _, HRE.out, fun q hq => absurd hq (by simp), Nat.zero_le _, hB, World.ownsRow_nil _ _ _ _, hb, hsz0⟩
        case round =>
          obtain ⟨p, f, hs, A, cap, sz, hp, rfl, rfl, hf, hrd, hql, hhp, hB, hrow, hbG, hsz⟩ := hrel
          clear hb hsz0 HRE HPOS hp0
          obtain ⟨f, rfl⟩ : ∃ g, f = g + 1 := ⟨f - 1, by omega⟩
          have HRG := Lib.hid hrd
          have HQL := Lib.hid hql
          clear hrd hql
          rw [List.length_drop] at hf
          cases hl : Req.line (t.drop p) with
          | none =>
            have HN := Lib.hid (show Rsp.read t = none by rw [HRG.out, rd_none hl]; rfl)
            have hL : Calls Tryd.prog 26 #[.string v, .int .i64 (p : Int)] wr fun e w'' => e = .returned (.tuple #[.string ⟨#[]⟩, .int .i64 (-1)]) ∧ wr = w'' := (hLn p hp wr).mono fun e w'' ⟨h1, h2⟩ => ⟨by rw [h1, hl]; rfl, h2⟩
            clear hl hLn hf hB hrow
            go_wp2_with fail
            refine hL.mono ?_
            rintro e w4 ⟨rfl, rfl⟩
            clear hL
            have bz0 := (hbG.block _ hg0).trans B0
            have bz1 := (hbG.block _ hg1).trans B1
            obtain ⟨z0, z1, z2, c0, f0, c1, f1, c2, f2, q0, q1, q2, hbb⟩ := zero_facts bz0 bz1 (hbW.trans (hbG.mono hgW))
            clear bz0 bz1 hbG
            go_wp2
            refine bodyPost_ret (v := .tuple #[.agg #[.int .i64 0, .slice none 0 0, .string (S [])], .int .i64 10]) ?_ rfl ⟨0, .slice none 0 0, [], [], 10, rfl, wr_nil _, hbb, .inr ⟨rfl, HN.out, rfl, rfl, rfl⟩⟩
            simp [results, Tryd.results21, go_sem, q0, q1, q2]
            rfl
          | some q =>
            obtain ⟨l, r'⟩ := q
            have hlen := Req.line_len hl
            rw [List.length_drop] at hlen
            have hr' : r' = t.drop (p + l.length + 2) := by
              have := Req.line_parts hl
              rw [Nat.add_assoc p, ← List.drop_drop, this, show l ++ 13 :: 10 :: r' = l ++ ([13, 10] ++ r') from rfl, ← List.drop_drop, List.drop_left]
              rfl
            have hE := S_empty l
            have hE2 := S_empty sz
            obtain ⟨x, hx⟩ : ∃ x, x = S l := ⟨_, rfl⟩
            have HXL := Lib.hid (show x.data.toList = l by rw [hx]; exact S_toList l)
            have hxz : x.size = l.length := by rw [hx]; rfl
            have hL : Calls Tryd.prog 26 #[.string v, .int .i64 (p : Int)] wr fun e w'' => e = .returned (.tuple #[.string x, .int .i64 ((p : Int) + (l.length : Int) + 2)]) ∧ wr = w'' := (hLn p hp wr).mono fun e w'' ⟨h1, h2⟩ => ⟨by rw [h1, hl, hx]; rfl, h2⟩
            rw [← hx] at hE
            clear hx
            have HLN := Lib.hid hl
            clear hl
            have hat0 : ¬ (p : Int) + (l.length : Int) + 2 < 0 := by omega
            have hpn : p + l.length + 2 ≤ t.length := by omega
            have HR' := Lib.hid hr'
            clear hr'
            cases hle : l.isEmpty with
            | true =>
              rw [hle] at hE
              have hl0 : l = [] := List.isEmpty_iff.1 hle
              have HEQ := Lib.hid (show Rsp.read t = (if Rsp.right st hs r' = true ∧ sz = Lib.decDigits r'.length then some (st, hs, r') else none) by rw [HRG.out, rd_end HLN.out hl0, HEND.out])
              have hnat : ((p : Int) + (l.length : Int) + 2).toNat = p + l.length + 2 := by omega
              have hxt : v.extract (p + l.length + 2) t.length = S r' := by rw [← hvz, extract_rest, HVL.out, HR'.out]
              have a0 : (0 : Int) ≤ (p : Int) + (l.length : Int) + 2 := by omega
              have a1 : (p : Int) + (l.length : Int) + 2 ≤ (t.length : Int) := by omega
              have c2 := hB.c2
              have f2 := hB.fr 2
              have hrl : r'.length ≤ 1000 := by omega
              clear hle hl0 HRG HLN HR' hLn hf
              go_wp2_with fail
              refine hL.mono ?_
              rintro e w4 ⟨rfl, rfl⟩
              clear hL
              go_upto_region 30 with fail
              have B4 : BlkR (wr.setCell ⟨w1.heap.size, 2, none⟩ (.string (S r'))) w1.heap.size (.int .i64 st) (.slice A hs.length cap) (.string (S r')) := hB.set2 _
              have hrow4 : PRow (w1.heap.size + 1) (wr.setCell ⟨w1.heap.size, 2, none⟩ (.string (S r'))) (.slice A hs.length cap) hs := own_setCell hrow (Nat.lt_succ_self _) _
              have hb4 : Below w1.heap.size w1 (wr.setCell ⟨w1.heap.size, 2, none⟩ (.string (S r'))) := hbG.setCell (p := ⟨w1.heap.size, 2, none⟩) (Nat.le_refl _) _
              have hs4 : w1.heap.size < (wr.setCell ⟨w1.heap.size, 2, none⟩ (.string (S r'))).heap.size := by simpa using hsz
              generalize (wr.setCell ⟨w1.heap.size, 2, none⟩ (.string (S r'))) = w4 at B4 hrow4 hb4 hs4 ⊢
              clear hB hrow hbG hsz c2 f2 hxt a0 a1
              have d0 := B4.c0
              have d1 := B4.c1
              have d2 := B4.c2
              obtain ⟨A', cap', hv4, hpc⟩ := hrow4.reads
              injection hv4 with e4 e5 e6
              subst e4
              clear e5 e6
              have hR := refRight_any st A cap hs r' w4 hpc (fun k hk => by have := HQL.out _ (List.getElem_mem hk); exact ⟨by omega, by omega⟩)
              unfold rspV at hR
              cases hr : Rsp.right st hs r' with
              | false =>
                have HN := Lib.hid (show Rsp.read t = none by rw [HEQ.out, hr]; simp)
                rw [hr] at hR
                clear hr HEQ
                go_wp2_with fail
                refine hR.mono ?_
                rintro e w5 ⟨rfl, hb5⟩
                have hbG : Below w1.heap.size w1 w5 := hb4.trans (hb5.mono hb4.size)
                clear hR hb5 hb4 d0 d1 d2 B4 hrow4 hpc
                have bz0 := (hbG.block _ hg0).trans B0
                have bz1 := (hbG.block _ hg1).trans B1
                obtain ⟨z0, z1, z2, c0, f0, c1, f1, c2, f2, q0, q1, q2, hbb⟩ := zero_facts bz0 bz1 (hbW.trans (hbG.mono hgW))
                clear bz0 bz1 hbG
                go_wp2
                refine bodyPost_ret (v := .tuple #[.agg #[.int .i64 0, .slice none 0 0, .string (S [])], .int .i64 10]) ?_ rfl ⟨0, .slice none 0 0, [], [], 10, rfl, wr_nil _, hbb, .inr ⟨rfl, HN.out, rfl, rfl, rfl⟩⟩
                simp [results, Tryd.results21, go_sem, q0, q1, q2]
                rfl
              | true =>
                rw [hr] at hR
                have HEQ2 := Lib.hid (show Rsp.read t = if sz = Lib.decDigits r'.length then some (st, hs, r') else none by rw [HEQ.out, hr]; simp)
                clear hr HEQ
                have hD := fun w' : World => refDigits_any r'.length w' (by omega)
                generalize Lib.decDigits r'.length = D at hD HEQ2
                have hrz : (S r').size = r'.length := rfl
                go_wp2_with fail
                refine hR.mono ?_
                rintro e w5 ⟨rfl, hb5⟩
                have hb55 : Below w1.heap.size w1 w5 := hb4.trans (hb5.mono hb4.size)
                have B5 : BlkR w5 w1.heap.size (.int .i64 st) (.slice A hs.length cap) (.string (S r')) := (hb5.block _ hs4).trans B4
                have hrow5 : PRow (w1.heap.size + 1) w5 (.slice A hs.length cap) hs := own_below hrow4 hb5
                have hs5 : w1.heap.size < w5.heap.size := Nat.lt_of_lt_of_le hs4 hb5.size
                clear hR hb5 hb4 d0 d1 d2 B4 hrow4 hpc hs4
                have d2 := B5.c2
                go_wp2_with fail
                refine (hD _).mono ?_
                rintro e w6 ⟨rfl, hb6⟩
                have hbG : Below w1.heap.size w1 w6 := hb55.trans (hb6.mono hb55.size)
                have B6 : BlkR w6 w1.heap.size (.int .i64 st) (.slice A hs.length cap) (.string (S r')) := (hb6.block _ hs5).trans B5
                have hrow6 : PRow (w1.heap.size + 1) w6 (.slice A hs.length cap) hs := own_below hrow5 hb6
                clear hD hb6 hb55 B5 hrow5 d2
                by_cases he : sz = D
                · have HN := Lib.hid (show Rsp.read t = some (st, hs, r') by rw [HEQ2.out, if_pos he])
                  clear HEQ2
                  subst he
                  have z0 := B6.c0
                  have z1 := B6.c1
                  have z2 := B6.c2
                  have bz0 := (hbG.block _ hg0).trans B0
                  have k0 : BlkR w6 w.heap.size (.int .i64 0) (.slice none 0 0) (.string ⟨#[]⟩) := bz0
                  have k1 := k0.set0 (.int .i64 st)
                  have k2 := k1.set1 (.slice A hs.length cap)
                  have k3 := k2.set2 (.string (S r'))
                  have c0 := k0.c0
                  have f0 := k0.fr 0
                  have c1 := k1.c1
                  have f1 := k1.fr 1
                  have c2 := k2.c2
                  have f2 := k2.fr 2
                  have q0 := k3.c0
                  have q1 := k3.c1
                  have q2 := k3.c2
                  have hg7 : w.heap.size < w1.heap.size + 1 := by omega
                  have hbw := hbW.trans (hbG.mono hgW)
                  have hown := wr_setCell (i := 2) (wr_setCell (i := 1) (wr_setCell (i := 0) hrow6 hg7 (.int .i64 st)) hg7 (.slice A hs.length cap)) hg7 (.string (S r'))
                  have hbb := ((hbw.setCell (p := ⟨w.heap.size, 0, none⟩) (Nat.le_refl _) (.int .i64 st)).setCell (p := ⟨w.heap.size, 1, none⟩) (Nat.le_refl _) (.slice A hs.length cap)).setCell (p := ⟨w.heap.size, 2, none⟩) (Nat.le_refl _) (.string (S r'))
                  clear bz0 k0 k1 k2 k3 B6 hrow6
                  go_wp2
                  refine bodyPost_ret (v := .tuple #[.agg #[.int .i64 st, .slice A hs.length cap, .string (S r')], .int .i64 0]) ?_ rfl ⟨st, .slice A hs.length cap, hs, r', 0, rfl, hown.wr, hbb, .inl ⟨rfl, HN.out⟩⟩
                  simp [results, Tryd.results21, go_sem, q0, q1, q2]
                · have HN := Lib.hid (show Rsp.read t = none by rw [HEQ2.out, if_neg he])
                  have hcmp : (!(S sz).toList == (S D).toList) = true := by rw [S_list, S_list]; simp [he]
                  clear HEQ2 B6 hrow6
                  have bz0 := (hbG.block _ hg0).trans B0
                  have bz1 := (hbG.block _ hg1).trans B1
                  obtain ⟨z0, z1, z2, c0, f0, c1, f1, c2, f2, q0, q1, q2, hbb⟩ := zero_facts bz0 bz1 (hbW.trans (hbG.mono hgW))
                  clear bz0 bz1 hbG
                  go_wp2
                  refine bodyPost_ret (v := .tuple #[.agg #[.int .i64 0, .slice none 0 0, .string (S [])], .int .i64 10]) ?_ rfl ⟨0, .slice none 0 0, [], [], 10, rfl, wr_nil _, hbb, .inr ⟨rfl, HN.out, rfl, rfl, rfl⟩⟩
                  simp [results, Tryd.results21, go_sem, q0, q1, q2]
                  rfl
            | false =>
              rw [hle] at hE
              have HLE := Lib.hid (show l ≠ [] from fun e => by rw [e] at hle; cases hle)
              clear hle
              cases hse : sz.isEmpty with
              | false =>
                rw [hse] at hE2
                have HN := Lib.hid (show Rsp.read t = none by rw [HRG.out, rd_more HLN.out HLE.out (fun e => by rw [e] at hse; cases hse)]; rfl)
                clear hse hB hrow HRG HLN hLn hf
                go_wp2_with fail
                refine hL.mono ?_
                rintro e w4 ⟨rfl, rfl⟩
                clear hL
                have bz0 := (hbG.block _ hg0).trans B0
                have bz1 := (hbG.block _ hg1).trans B1
                obtain ⟨z0, z1, z2, c0, f0, c1, f1, c2, f2, q0, q1, q2, hbb⟩ := zero_facts bz0 bz1 (hbW.trans (hbG.mono hgW))
                clear bz0 bz1 hbG
                go_wp2
                refine bodyPost_ret (v := .tuple #[.agg #[.int .i64 0, .slice none 0 0, .string (S [])], .int .i64 10]) ?_ rfl ⟨0, .slice none 0 0, [], [], 10, rfl, wr_nil _, hbb, .inr ⟨rfl, HN.out, rfl, rfl, rfl⟩⟩
                simp [results, Tryd.results21, go_sem, q0, q1, q2]
                rfl
              | true =>
                rw [hse] at hE2
                have hszn : sz = [] := List.isEmpty_iff.1 hse
                rw [hszn] at HRG
                have HSZ := Lib.hid hszn
                clear hse hszn
                go_wp2_with fail
                refine hL.mono ?_
                rintro e w4 ⟨rfl, rfl⟩
                clear hL
                go_wp2
                clear hE hE2
                go_loop [11] (fun i => ∃ k : Nat, i = .int .i64 k ∧ k ≤ l.length ∧ Lib.NoOcc l Rsp.sep2 k) (fun i => l.length - (intOf i).toNat)
                case atStart => exact ⟨0, rfl, Nat.zero_le _, Lib.NoOcc.zero _ _⟩
                case round =>
                  obtain ⟨k, rfl, hk, hno⟩ := hrel
                  have HNO := Lib.hid hno
                  clear hno
                  by_cases hlt : k + 1 < x.size
                  · have hlt0 : k < x.size := by omega
                    have hlt1 : k < l.length := by omega
                    have hlt2 : k + 1 < l.length := by omega
                    have hIk : (k : Int) + 1 < (l.length : Int) := by omega
                    have hIk0 : (k : Int) < (l.length : Int) := by omega
                    have hnatk : ((k : Int) + 1).toNat = k + 1 := by omega
                    have g1 := get_of HXL.out k hlt0 hlt1
                    have g2 := get_of HXL.out (k + 1) hlt hlt2
                    have HG := Lib.hid (And.intro g1 g2)
                    clear g1 g2
                    by_cases h58 : x[k] = 58
                    · have e1 : ((x[k].toNat : Int) != 58) = false := by rw [h58]; rfl
                      by_cases h32 : x[k + 1] = 32
                      · have e2 : ((x[k + 1].toNat : Int) != 32) = false := by rw [h32]; rfl
                        have HC := Lib.hid (cut_at HNO.out hlt2 (HG.out.1.trans h58) (HG.out.2.trans h32))
                        have hx1 : x.extract 0 k = S (l.take k) := by rw [extract_piece, HXL.out]; simp
                        have hx2 : x.extract (k + 2) l.length = S (l.drop (k + 2)) := by rw [← hxz, extract_rest, HXL.out]
                        have hnat2 : ((k : Int) + 2).toNat = k + 2 := by omega
                        have b0 : (0 : Int) ≤ (k : Int) + 2 := by omega
                        have b1 : (k : Int) + 2 ≤ (l.length : Int) := by omega
                        have b2 : (k : Int) ≤ (l.length : Int) := by omega
                        have hnl : (l.take k).length ≤ 1000 := by rw [List.length_take]; omega
                        have hcl : (l.drop (k + 2)).length ≤ 1000 := by rw [List.length_drop]; omega
                        have hE3 := S_empty (l.drop (k + 2))
                        generalize l.take k = n at HC hx1 hnl
                        generalize l.drop (k + 2) = c2 at HC hx2 hcl hE3
                        clear h58 h32
                        by_cases hn : n = Rsp.lenName
                        · cases hce : c2.isEmpty with
                          | true =>
                            rw [hce] at hE3
                            have HN := Lib.hid (show Rsp.read t = none by rw [HRG.out, rd_len0 HLN.out HLE.out HC.out hn (List.isEmpty_iff.1 hce)]; rfl)
                            have hnn : (S n).toList = [67, 111, 110, 116, 101, 110, 116, 45, 76, 101, 110, 103, 116, 104] := by rw [S_list, hn]; rfl
                            clear hce hn hB hrow HRG HLN hLn hf
                            have bz0 := (hbG.block _ hg0).trans B0
                            have bz1 := (hbG.block _ hg1).trans B1
                            obtain ⟨z0, z1, z2, c0, f0, c1, f1, c2, f2, q0, q1, q2, hbb⟩ := zero_facts bz0 bz1 (hbW.trans (hbG.mono hgW))
                            clear bz0 bz1 hbG
                            go_wp2
                            refine bodyPost_ret (v := .tuple #[.agg #[.int .i64 0, .slice none 0 0, .string (S [])], .int .i64 10]) ?_ rfl ⟨0, .slice none 0 0, [], [], 10, rfl, wr_nil _, hbb, .inr ⟨rfl, HN.out, rfl, rfl, rfl⟩⟩
                            simp [results, Tryd.results21, go_sem, q0, q1, q2]
                            rfl
                          | false =>
                            rw [hce] at hE3
                            have HGO := Lib.hid (show Rsp.read t = Rsp.refEnd l0 (Rsp.rdGo f r' hs c2) by rw [HRG.out, rd_len HLN.out HLE.out HC.out hn (fun e => by rw [e] at hce; cases hce)])
                            have hnn : (S n).toList = [67, 111, 110, 116, 101, 110, 116, 45, 76, 101, 110, 103, 116, 104] := by rw [S_list, hn]; rfl
                            clear hce hn
                            go_wp2
                            go_roundw
                            case rel => exact ⟨p + l.length + 2, f, hs, A, cap, c2, hpn, by simp, rfl, by rw [List.length_drop]; omega, by rw [HGO.out, HR'.out], HQL.out, by omega, hB, hrow, hbG, hsz⟩
                            case measure => simp [intOf]; omega
                        · have HGO := Lib.hid (show Rsp.read t = Rsp.refEnd l0 (Rsp.rdGo f r' (hs ++ [(n, c2)]) []) by rw [HRG.out, rd_hdr HLN.out HLE.out HC.out hn])
                          have hnn : ((S n).toList == [67, 111, 110, 116, 101, 110, 116, 45, 76, 101, 110, 103, 116, 104]) = false := by rw [S_list]; exact beq_eq_false_iff_ne.2 hn
                          have hrow' := hrow
                          unfold PRow at hrow'
                          have c1 := hB.c1
                          have h33 : hs.length + 1 ≤ maxLen := by unfold maxLen; omega
                          have h34 : (hs.length + 1) * 32 ≤ 140737488355328 := by omega
                          have hw2 : IntKind.i64.wrap ((k : Int) + 2) = (k : Int) + 2 := by simp only [IntKind.wrap_i64]; omega
                          clear hn
                          go_wp2
                          go_region_law ((refine step_append_lies _ (by rfl) _ _ _ (by rfl) (w1.heap.size + 1) 44 i0 _ 2 32 Tryd.underlying22 hi0 hz0 hz1 hz2 rfl (by omega) (.slice A hs.length cap) hs.length (cells2 hs) (by rfl) ((hrow'.alloc _).drew) ⟨wr.heap.size, 0, none⟩ 1 1 [.string (S n), .string (S c2)] (by rfl) (by rfl) (World.news_of_block (cs := #[.string (S n), .string (S c2)]) (t := 44) (fr := (0, 0)) (heap_alloc_new wr _)) (by simp [Value.oneCell']) (by omega) h33 h34 (by simp; omega) (wr.heap.size + 1) (by simp) ?_; intro gg cp w5 hown5 hgrow hat5 hlt5; have B5 : BlkR w5 w1.heap.size (.int .i64 st) (.slice A hs.length cap) (.string ⟨#[]⟩) := (hgrow.block w1.heap.size (by simp; omega) (fun e => by have := (hrow'.lt _ e.symm).1; omega)).trans ((Below.heap_alloc wr _ w1.heap.size hsz).trans hB); have e5 := B5.c1; have f5 := B5.fr 1))
                          all_goals
                            have hbx : Below (w1.heap.size + 1) wr w5 := (((Below.refl (w1.heap.size + 1) wr).alloc (by omega) _).drew).grown hgrow (by simp; omega) (fun k hk => (hrow'.lt k hk).1)
                            have hbz : Below w1.heap.size w1 w5 := hbG.trans (hbx.mono (by omega))
                            have hs5 : w1.heap.size < w5.heap.size := Nat.lt_of_lt_of_le hsz hbx.size
                            go_wp2
                            go_roundw
                            case rel => exact ⟨p + l.length + 2, f, hs ++ [(n, c2)], some ⟨gg, 0, none⟩, cp, sz, hpn, by simp, rfl, by rw [List.length_drop]; omega, by rw [HGO.out, HR'.out, HSZ.out], fun q hq => by
                              rcases List.mem_append.1 hq with hq | hq
                              · exact HQL.out q hq
                              · rw [List.mem_singleton] at hq
                                subst hq
                                exact ⟨hnl, hcl⟩, by simp; omega, by simpa using B5.set1 _, own_setCell (prow_snoc hown5) (by omega) _, hbz.setCell (p := ⟨w1.heap.size, 1, none⟩) (Nat.le_refl _) _, by simpa using hs5⟩
                            case measure => simp [intOf]; omega
                      · have e2 : ((x[k + 1].toNat : Int) != 32) = true := bne_iff_ne.2 fun e => h32 (Pct.u8_eq (by show x[k + 1].toNat = 32; omega))
                        have HNX := Lib.hid (noOcc_next HNO.out hlt2 (fun h => h32 (HG.out.2.symm.trans h.2)))
                        clear h58 h32
                        go_wp2
                        go_round
                        case rel => exact ⟨k + 1, by go_num, by omega, HNX.out⟩
                        case measure => simp [intOf]; omega
                    · have e1 : ((x[k].toNat : Int) != 58) = true := bne_iff_ne.2 fun e => h58 (Pct.u8_eq (by show x[k].toNat = 58; omega))
                      have HNX := Lib.hid (noOcc_next HNO.out hlt2 (fun h => h58 (HG.out.1.symm.trans h.1)))
                      clear h58
                      go_wp2
                      go_round
                      case rel => exact ⟨k + 1, by go_num, by omega, HNX.out⟩
                      case measure => simp [intOf]; omega
                  · have hIk : ¬ (k : Int) + 1 < (l.length : Int) := by omega
                    have HN := Lib.hid (show Rsp.read t = none by rw [HRG.out, rd_nocut HLN.out HLE.out (cut_past HNO.out (by omega))]; rfl)
                    clear hB hrow HRG HLN hLn hf
                    have bz0 := (hbG.block _ hg0).trans B0
                    have bz1 := (hbG.block _ hg1).trans B1
                    obtain ⟨z0, z1, z2, c0, f0, c1, f1, c2, f2, q0, q1, q2, hbb⟩ := zero_facts bz0 bz1 (hbW.trans (hbG.mono hgW))
                    clear bz0 bz1 hbG
                    go_wp2
                    refine bodyPost_ret (v := .tuple #[.agg #[.int .i64 0, .slice none 0 0, .string (S [])], .int .i64 10]) ?_ rfl ⟨0, .slice none 0 0, [], [], 10, rfl, wr_nil _, hbb, .inr ⟨rfl, HN.out, rfl, rfl, rfl⟩⟩
                    simp [results, Tryd.results21, go_sem, q0, q1, q2]
                    rfl
end Go.Proofs.YtehgigfngelkjaaDoor
