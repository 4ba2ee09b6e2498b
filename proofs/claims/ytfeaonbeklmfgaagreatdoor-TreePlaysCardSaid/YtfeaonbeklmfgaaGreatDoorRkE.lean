/- What package record's Decode answers, for any name of at most 2^30 bytes and any bytes of at most 2^29. -/
import Derived.Test.YtfeaonbeklmfgaaGreatDoorRkD
namespace Go.Proofs.YtfeaonbeklmfgaaGreatDoor
set_option maxRecDepth 8000
open Go.RowKit

def noRec : Rk.R := ⟨0, [], [], [], [], [], 0, 0, 0, false⟩
def decV (n s : List UInt8) : Value := match Rk.dec n s with
  | some r => .tuple #[recV r, .int .i64 0]
  | none => .tuple #[recV noRec, .int .i64 8]
/-- What lies where Decode is at work: what is told, the source, the record. -/
structure RS (w wr : World) (a : Nat) (s : List UInt8) (r : Rk.R) : Prop where
  src : SrcAt wr (a + 1) s
  rc : wr.heap[a + 1 + 1]? = some (.cells (recCs r) 30 (0, 0))
  out : wr.heap[a]? = some (.cells (recCs noRec) 30 (0, 0))
  below : Below a w wr
  size : a ≤ wr.heap.size
theorem RS.call {w wr w' : World} {a : Nat} {s s' : List UInt8} {r : Rk.R} (h : RS w wr a s r) (hs : SrcAt w' (a + 1) s') (hg : wr.grownBy w' (some (a + 1))) : RS w w' a s' r :=
  ⟨hs, (hg.block _ (lt_of_blk h.rc) (by simp)).trans h.rc, (hg.block _ (lt_of_blk h.out) (by simp)).trans h.out, h.below.grown hg h.size (fun q hq => by cases hq; omega), Nat.le_trans h.size hg.size⟩
theorem RS.store {w wr : World} {a : Nat} {s : List UInt8} {r : Rk.R} (h : RS w wr a s r) (i : Nat) (v : Value) (r' : Rk.R) (e : (recCs r).setIfInBounds i v = recCs r') : RS w (wr.setCell ⟨a + 1 + 1, i, none⟩ v) a s r' := by
  have hg : wr.grownBy (wr.setCell ⟨a + 1 + 1, i, none⟩ v) (some (a + 1 + 1)) := ⟨rfl, rfl, rfl, by simp, fun k _ hk => heap_setCell_other wr ⟨a + 1 + 1, i, none⟩ k _ (fun e => hk (by simp [e]))⟩
  refine ⟨(hg.block _ (lt_of_blk h.src) (by simp)).trans h.src, ?_, (hg.block _ (lt_of_blk h.out) (by intro e; have := Option.some.inj e; omega)).trans h.out, h.below.grown hg h.size (fun q hq => by cases hq; omega), Nat.le_trans h.size hg.size⟩
  rw [← e]
  exact heap_setCell_same wr (a + 1 + 1) i _ _ v h.rc
theorem RS.at {w wr : World} {a : Nat} {s : List UInt8} {r : Rk.R} (h : RS w wr a s r) : RecAt wr (a + 1 + 1) r := recAt_blk h.rc
theorem RS.frozen {w wr : World} {a : Nat} {s : List UInt8} {r : Rk.R} (h : RS w wr a s r) (i : Nat) : wr.frozen? ⟨a + 1 + 1, i, none⟩ = false := by
  have := h.rc
  simp [World.frozen?, this]
/-- A record laid over another one. -/
def recLay (w : World) (a : Nat) (r : Rk.R) : World := (((((((((w.setCell ⟨a, 0, none⟩ (.int .i64 r.kind)).setCell ⟨a, 1, none⟩ (.string (S r.name))).setCell ⟨a, 2, none⟩ (.string (S r.parent))).setCell ⟨a, 3, none⟩ (.string (S r.user))).setCell ⟨a, 4, none⟩ (.string (S r.service))).setCell ⟨a, 5, none⟩ (.string (S r.url))).setCell ⟨a, 6, none⟩ (.int .i64 r.made)).setCell ⟨a, 7, none⟩ (.int .i64 r.used)).setCell ⟨a, 8, none⟩ (.int .i64 r.uses)).setCell ⟨a, 9, none⟩ (.bool r.fresh)
theorem setCell_grown (w : World) (a i : Nat) (v : Value) : w.grownBy (w.setCell ⟨a, i, none⟩ v) (some a) := ⟨rfl, rfl, rfl, by simp, fun k _ hk => heap_setCell_other w ⟨a, i, none⟩ k _ (fun e => hk (by simp [e]))⟩
theorem grown_grown {w w1 w2 : World} {row : Option Nat} (h : w.grownBy w1 row) (h2 : w1.grownBy w2 row) : w.grownBy w2 row :=
  ⟨h2.os.trans h.os, h2.tape.trans h.tape, h2.output.trans h.output, Nat.le_trans h.size h2.size, fun k hk hne => (h2.block k (Nat.lt_of_lt_of_le hk h.size) hne).trans (h.block k hk hne)⟩
theorem recCell_set {w : World} {a : Nat} {x : Rk.R} (h : w.heap[a]? = some (.cells (recCs x) 30 (0, 0))) (i : Nat) (v : Value) (x' : Rk.R) (e : (recCs x).setIfInBounds i v = recCs x') : (w.setCell ⟨a, i, none⟩ v).heap[a]? = some (.cells (recCs x') 30 (0, 0)) := by
  rw [← e]
  exact heap_setCell_same w a i _ _ v h
theorem recLay_blk {w : World} {a : Nat} {x : Rk.R} (r : Rk.R) (h : w.heap[a]? = some (.cells (recCs x) 30 (0, 0))) : (recLay w a r).heap[a]? = some (.cells (recCs r) 30 (0, 0)) := by
  have h0 := recCell_set h 0 (.int .i64 r.kind) ⟨r.kind, x.name, x.parent, x.user, x.service, x.url, x.made, x.used, x.uses, x.fresh⟩ rfl
  have h1 := recCell_set h0 1 (.string (S r.name)) ⟨r.kind, r.name, x.parent, x.user, x.service, x.url, x.made, x.used, x.uses, x.fresh⟩ rfl
  have h2 := recCell_set h1 2 (.string (S r.parent)) ⟨r.kind, r.name, r.parent, x.user, x.service, x.url, x.made, x.used, x.uses, x.fresh⟩ rfl
  have h3 := recCell_set h2 3 (.string (S r.user)) ⟨r.kind, r.name, r.parent, r.user, x.service, x.url, x.made, x.used, x.uses, x.fresh⟩ rfl
  have h4 := recCell_set h3 4 (.string (S r.service)) ⟨r.kind, r.name, r.parent, r.user, r.service, x.url, x.made, x.used, x.uses, x.fresh⟩ rfl
  have h5 := recCell_set h4 5 (.string (S r.url)) ⟨r.kind, r.name, r.parent, r.user, r.service, r.url, x.made, x.used, x.uses, x.fresh⟩ rfl
  have h6 := recCell_set h5 6 (.int .i64 r.made) ⟨r.kind, r.name, r.parent, r.user, r.service, r.url, r.made, x.used, x.uses, x.fresh⟩ rfl
  have h7 := recCell_set h6 7 (.int .i64 r.used) ⟨r.kind, r.name, r.parent, r.user, r.service, r.url, r.made, r.used, x.uses, x.fresh⟩ rfl
  have h8 := recCell_set h7 8 (.int .i64 r.uses) ⟨r.kind, r.name, r.parent, r.user, r.service, r.url, r.made, r.used, r.uses, x.fresh⟩ rfl
  exact recCell_set h8 9 (.bool r.fresh) ⟨r.kind, r.name, r.parent, r.user, r.service, r.url, r.made, r.used, r.uses, r.fresh⟩ rfl
theorem recLay_grown (w : World) (a : Nat) (r : Rk.R) : w.grownBy (recLay w a r) (some a) := by
  unfold recLay
  refine grown_grown ?_ (setCell_grown _ a 9 _)
  refine grown_grown ?_ (setCell_grown _ a 8 _)
  refine grown_grown ?_ (setCell_grown _ a 7 _)
  refine grown_grown ?_ (setCell_grown _ a 6 _)
  refine grown_grown ?_ (setCell_grown _ a 5 _)
  refine grown_grown ?_ (setCell_grown _ a 4 _)
  refine grown_grown ?_ (setCell_grown _ a 3 _)
  refine grown_grown ?_ (setCell_grown _ a 2 _)
  refine grown_grown ?_ (setCell_grown _ a 1 _)
  exact setCell_grown _ a 0 _
theorem recLay_at {w : World} {a : Nat} {x : Rk.R} (r : Rk.R) (h : w.heap[a]? = some (.cells (recCs x) 30 (0, 0))) : RecAt (recLay w a r) a r ∧ w.grownBy (recLay w a r) (some a) :=
  ⟨recAt_blk (recLay_blk r h), recLay_grown w a r⟩
set_option maxHeartbeats 3200000 in
theorem recDecode_any (n s : List UInt8) (hn : n.length ≤ 1073741824) (hl : s.length ≤ 536870912) (w : World) (hE : EnvT w) :
    Calls Tryz.prog 70 #[.string (S n), .string (S s)] w fun e w' => e = .returned (decV n s) ∧ Below w.heap.size w w' := by
  have HN : Hid (∀ (w1 : World) (g : Nat) (s : List UInt8) (n : Nat), SrcAt w1 g s → n ≤ 1073741824 → s.length ≤ 1073741824 → Calls Tryz.prog 86 #[.pointer (some ⟨g, 0, none⟩), .int .i64 (n : Int)] w1 (SrcPost w1 g (s.drop n) (.int .i64 (Rk.numI (s.take n))))) := Lib.hid fun w1 g s n h1 h2 h3 => number_any w1 g s n h1 h2 h3
  obtain ⟨s1, e1⟩ : ∃ x, x = s.drop 1 := ⟨_, rfl⟩
  obtain ⟨s2, e2⟩ : ∃ x, x = s1.drop 1 := ⟨_, rfl⟩
  obtain ⟨s3, e3⟩ : ∃ x, x = s2.drop 1 := ⟨_, rfl⟩
  obtain ⟨s4, e4⟩ : ∃ x, x = s3.drop 8 := ⟨_, rfl⟩
  obtain ⟨s5, e5⟩ : ∃ x, x = s4.drop 8 := ⟨_, rfl⟩
  obtain ⟨k, ek⟩ : ∃ x, x = Rk.numI (s.take 1) := ⟨_, rfl⟩
  obtain ⟨u, eu⟩ : ∃ x, x = Rk.numI (s1.take 1) := ⟨_, rfl⟩
  obtain ⟨f, ef⟩ : ∃ x, x = Rk.numI (s2.take 1) := ⟨_, rfl⟩
  obtain ⟨m, em⟩ : ∃ x, x = Rk.numI (s3.take 8) := ⟨_, rfl⟩
  obtain ⟨d, ed⟩ : ∃ x, x = Rk.numI (s4.take 8) := ⟨_, rfl⟩
  have l1 : s1.length ≤ 536870912 := by rw [e1, List.length_drop]; omega
  have l2 : s2.length ≤ 536870912 := by rw [e2, List.length_drop]; omega
  have l3 : s3.length ≤ 536870912 := by rw [e3, List.length_drop]; omega
  have l4 : s4.length ≤ 536870912 := by rw [e4, List.length_drop]; omega
  have l5 : s5.length ≤ 536870912 := by rw [e5, List.length_drop]; omega
  have N0 : Hid (∀ w1, SrcAt w1 (w.heap.size + 1) s → Calls Tryz.prog 86 #[.pointer (some ⟨w.heap.size + 1, 0, none⟩), .int .i64 1] w1 (SrcPost w1 (w.heap.size + 1) s1 (.int .i64 k))) := Lib.hid fun w1 h => by rw [e1, ek]; exact HN.out w1 _ s 1 h (by omega) (by omega)
  have N1 : Hid (∀ w1, SrcAt w1 (w.heap.size + 1) s1 → Calls Tryz.prog 86 #[.pointer (some ⟨w.heap.size + 1, 0, none⟩), .int .i64 1] w1 (SrcPost w1 (w.heap.size + 1) s2 (.int .i64 u))) := Lib.hid fun w1 h => by rw [e2, eu]; exact HN.out w1 _ s1 1 h (by omega) (by omega)
  have N2 : Hid (∀ w1, SrcAt w1 (w.heap.size + 1) s2 → Calls Tryz.prog 86 #[.pointer (some ⟨w.heap.size + 1, 0, none⟩), .int .i64 1] w1 (SrcPost w1 (w.heap.size + 1) s3 (.int .i64 f))) := Lib.hid fun w1 h => by rw [e3, ef]; exact HN.out w1 _ s2 1 h (by omega) (by omega)
  have N3 : Hid (∀ w1, SrcAt w1 (w.heap.size + 1) s3 → Calls Tryz.prog 86 #[.pointer (some ⟨w.heap.size + 1, 0, none⟩), .int .i64 8] w1 (SrcPost w1 (w.heap.size + 1) s4 (.int .i64 m))) := Lib.hid fun w1 h => by rw [e4, em]; exact HN.out w1 _ s3 8 h (by omega) (by omega)
  have N4 : Hid (∀ w1, SrcAt w1 (w.heap.size + 1) s4 → Calls Tryz.prog 86 #[.pointer (some ⟨w.heap.size + 1, 0, none⟩), .int .i64 8] w1 (SrcPost w1 (w.heap.size + 1) s5 (.int .i64 d))) := Lib.hid fun w1 h => by rw [e5, ed]; exact HN.out w1 _ s4 8 h (by omega) (by omega)
  obtain ⟨s6, e6⟩ : ∃ x, x = (Rk.rdT s5).2 := ⟨_, rfl⟩
  obtain ⟨s7, e7⟩ : ∃ x, x = (Rk.rdT s6).2 := ⟨_, rfl⟩
  obtain ⟨s8, e8⟩ : ∃ x, x = (Rk.rdT s7).2 := ⟨_, rfl⟩
  obtain ⟨p5, q5⟩ : ∃ x, x = (Rk.rdT s5).1 := ⟨_, rfl⟩
  obtain ⟨p6, q6⟩ : ∃ x, x = (Rk.rdT s6).1 := ⟨_, rfl⟩
  obtain ⟨p7, q7⟩ : ∃ x, x = (Rk.rdT s7).1 := ⟨_, rfl⟩
  obtain ⟨p8, q8⟩ : ∃ x, x = (Rk.rdT s8).1 := ⟨_, rfl⟩
  have l6 : s6.length ≤ 536870912 := by rw [e6]; unfold Rk.rdT; dsimp only; rw [List.length_drop, List.length_drop]; omega
  have l7 : s7.length ≤ 536870912 := by rw [e7]; unfold Rk.rdT; dsimp only; rw [List.length_drop, List.length_drop]; omega
  have l8 : s8.length ≤ 536870912 := by rw [e8]; unfold Rk.rdT; dsimp only; rw [List.length_drop, List.length_drop]; omega
  have lp : p5.length ≤ 1073741824 := by rw [q5]; unfold Rk.rdT; dsimp only; rw [List.length_take, List.length_drop]; omega
  have T5 : Hid (∀ w1, SrcAt w1 (w.heap.size + 1) s5 → Calls Tryz.prog 87 #[.pointer (some ⟨w.heap.size + 1, 0, none⟩)] w1 (SrcPost w1 (w.heap.size + 1) s6 (.string (S p5)))) := Lib.hid fun w1 h => by rw [e6, q5]; exact text_any w1 _ s5 h (by omega)
  have T6 : Hid (∀ w1, SrcAt w1 (w.heap.size + 1) s6 → Calls Tryz.prog 87 #[.pointer (some ⟨w.heap.size + 1, 0, none⟩)] w1 (SrcPost w1 (w.heap.size + 1) s7 (.string (S p6)))) := Lib.hid fun w1 h => by rw [e7, q6]; exact text_any w1 _ s6 h (by omega)
  have T7 : Hid (∀ w1, SrcAt w1 (w.heap.size + 1) s7 → Calls Tryz.prog 87 #[.pointer (some ⟨w.heap.size + 1, 0, none⟩)] w1 (SrcPost w1 (w.heap.size + 1) s8 (.string (S p7)))) := Lib.hid fun w1 h => by rw [e8, q7]; exact text_any w1 _ s7 h (by omega)
  have T8 : Hid (∀ w1, SrcAt w1 (w.heap.size + 1) s8 → Calls Tryz.prog 87 #[.pointer (some ⟨w.heap.size + 1, 0, none⟩)] w1 (SrcPost w1 (w.heap.size + 1) (Rk.rdT s8).2 (.string (S p8)))) := Lib.hid fun w1 h => by rw [q8]; exact text_any w1 _ s8 h (by omega)
  have HRD : Hid (Rk.read n s = ⟨k, n, p5, p6, p7, p8, m, d, u, f == 1⟩) := Lib.hid (by
    rw [show (f == 1) = decide (f = 1) from rfl]
    have d2 : s.drop 2 = s2 := by rw [e2, e1, List.drop_drop]
    have d3 : s.drop 3 = s3 := by rw [e3, ← d2, List.drop_drop]
    have d11 : s.drop 11 = s4 := by rw [e4, ← d3, List.drop_drop]
    have d19 : s.drop 19 = s5 := by rw [e5, ← d11, List.drop_drop]
    unfold Rk.read
    rw [d2, d3, d11, d19, ← e1, ← ek, ← eu, ← ef, ← em, ← ed]
    dsimp only
    rw [← e6, ← e7, ← e8, ← q5, ← q6, ← q7, ← q8])
  clear HN e1 e2 e3 e4 e5 ek eu ef em ed l1 l2 l3 l4 l5 e6 e7 e8 q5 q6 q7 q8 l6 l7 l8
  generalize (Rk.rdT s8).2 = s9 at T8
  have h0 : RS w (((w.alloc (.cells #[.int .i64 0, .string ⟨#[]⟩, .string ⟨#[]⟩, .string ⟨#[]⟩, .string ⟨#[]⟩, .string ⟨#[]⟩, .int .i64 0, .int .i64 0, .int .i64 0, .bool false] 30)).alloc (.cells #[.string (S s)] 118)).alloc (.cells #[.int .i64 0, .string (S n), .string ⟨#[]⟩, .string ⟨#[]⟩, .string ⟨#[]⟩, .string ⟨#[]⟩, .int .i64 0, .int .i64 0, .int .i64 0, .bool false] 30)) w.heap.size s ⟨0, n, [], [], [], [], 0, 0, 0, false⟩ := by
    obtain ⟨A1, hA1⟩ : ∃ A1, A1 = w.alloc (.cells #[.int .i64 0, .string ⟨#[]⟩, .string ⟨#[]⟩, .string ⟨#[]⟩, .string ⟨#[]⟩, .string ⟨#[]⟩, .int .i64 0, .int .i64 0, .int .i64 0, .bool false] 30) := ⟨_, rfl⟩
    have z1 : A1.heap.size = w.heap.size + 1 := by rw [hA1]; simp
    have b1 : A1.heap[w.heap.size]? = some (.cells (recCs noRec) 30 (0, 0)) := by rw [hA1]; exact heap_alloc_new w _
    have g1 : Below w.heap.size w A1 := by rw [hA1]; exact (Below.refl _ _).alloc (Nat.le_refl _) _
    rw [← hA1]
    clear hA1
    obtain ⟨A2, hA2⟩ : ∃ A2, A2 = A1.alloc (.cells #[.string (S s)] 118) := ⟨_, rfl⟩
    have z2 : A2.heap.size = w.heap.size + 1 + 1 := by rw [hA2]; simp [z1]
    have b2 : SrcAt A2 (w.heap.size + 1) s := by rw [hA2, ← z1]; exact heap_alloc_new A1 _
    have g2 : Below A1.heap.size A1 A2 := by rw [hA2]; exact (Below.refl _ _).alloc (Nat.le_refl _) _
    rw [← hA2]
    clear hA2
    have g3 : Below A2.heap.size A2 (A2.alloc (.cells #[.int .i64 0, .string (S n), .string ⟨#[]⟩, .string ⟨#[]⟩, .string ⟨#[]⟩, .string ⟨#[]⟩, .int .i64 0, .int .i64 0, .int .i64 0, .bool false] 30)) := (Below.refl _ _).alloc (Nat.le_refl _) _
    have g23 := g2.trans (g3.mono g2.size)
    refine ⟨(g3.block _ (by omega)).trans b2, ?_, (g23.block _ (by omega)).trans b1, g1.trans (g23.mono g1.size), by have := g23.size; omega⟩
    rw [← z2]
    exact heap_alloc_new A2 _
  go_enter Tryz.func70, Tryz.ntmps70
  go_upto_region 3 with fail
  generalize ((w.alloc (.cells #[.int .i64 0, .string ⟨#[]⟩, .string ⟨#[]⟩, .string ⟨#[]⟩, .string ⟨#[]⟩, .string ⟨#[]⟩, .int .i64 0, .int .i64 0, .int .i64 0, .bool false] 30)).alloc (.cells #[.string (S s)] 118)).alloc (.cells #[.int .i64 0, .string (S n), .string ⟨#[]⟩, .string ⟨#[]⟩, .string ⟨#[]⟩, .string ⟨#[]⟩, .int .i64 0, .int .i64 0, .int .i64 0, .bool false] 30) = w0 at h0 ⊢
  have H0 := Lib.hid h0
  clear h0
  go_upto_region 4 with (first
    | (go_at_call 86; refine (N2.out _ H2.out.src).mono ?_; rintro e w3 ⟨rfl, hs3, hg3⟩; have H3 := Lib.hid (H2.out.call hs3 hg3); clear hs3 hg3; obtain ⟨c0, -, -, -, -, -, -, -, c8, c9⟩ := H3.out.at; have z0 := H3.out.frozen 0; have z8 := H3.out.frozen 8; have z9 := H3.out.frozen 9)
    | (go_at_call 86; refine (N1.out _ H1.out.src).mono ?_; rintro e w2 ⟨rfl, hs2, hg2⟩; have H2 := Lib.hid (H1.out.call hs2 hg2); clear hs2 hg2)
    | (go_at_call 86; refine (N0.out _ H0.out.src).mono ?_; rintro e w1 ⟨rfl, hs1, hg1⟩; have H1 := Lib.hid (H0.out.call hs1 hg1); clear hs1 hg1))
  have H4 := Lib.hid (((H3.out.store 0 (.int .i64 k) ⟨k, n, [], [], [], [], 0, 0, 0, false⟩ rfl).store 8 (.int .i64 u) ⟨k, n, [], [], [], [], 0, 0, u, false⟩ rfl).store 9 (.bool (f == 1)) ⟨k, n, [], [], [], [], 0, 0, u, f == 1⟩ rfl)
  generalize ((w3.setCell ⟨w.heap.size + 1 + 1, 0, none⟩ (.int .i64 k)).setCell ⟨w.heap.size + 1 + 1, 8, none⟩ (.int .i64 u)).setCell ⟨w.heap.size + 1 + 1, 9, none⟩ (.bool (f == 1)) = w4 at H4 ⊢
  clear H0 H1 H2 H3 c0 c8 c9 z0 z8 z9 N0 N1 N2
  go_upto_region 5 with (first
    | (go_at_call 86; refine (N4.out _ H5.out.src).mono ?_; rintro e w6 ⟨rfl, hs6, hg6⟩; have H6 := Lib.hid (H5.out.call hs6 hg6); clear hs6 hg6; obtain ⟨-, -, -, -, -, -, c6, c7, -, -⟩ := H6.out.at; have z6 := H6.out.frozen 6; have z7 := H6.out.frozen 7)
    | (go_at_call 86; refine (N3.out _ H4.out.src).mono ?_; rintro e w5 ⟨rfl, hs5, hg5⟩; have H5 := Lib.hid (H4.out.call hs5 hg5); clear hs5 hg5))
  have H7 := Lib.hid ((H6.out.store 6 (.int .i64 m) ⟨k, n, [], [], [], [], m, 0, u, f == 1⟩ rfl).store 7 (.int .i64 d) ⟨k, n, [], [], [], [], m, d, u, f == 1⟩ rfl)
  generalize (w6.setCell ⟨w.heap.size + 1 + 1, 6, none⟩ (.int .i64 m)).setCell ⟨w.heap.size + 1 + 1, 7, none⟩ (.int .i64 d) = w7 at H7 ⊢
  clear H4 H5 H6 c6 c7 z6 z7 N3 N4
  go_upto_region 6 with (first
    | (go_at_call 87; refine (T8.out _ HA.out.src).mono ?_; rintro e wd ⟨rfl, hsd, hgd⟩; have HD := Lib.hid (HA.out.call hsd hgd); clear hsd hgd; obtain ⟨-, -, c2, c3, c4, c5, -, -, -, -⟩ := HD.out.at; have z2 := HD.out.frozen 2; have z3 := HD.out.frozen 3; have z4 := HD.out.frozen 4; have z5 := HD.out.frozen 5)
    | (go_at_call 87; refine (T7.out _ H9.out.src).mono ?_; rintro e wa ⟨rfl, hsa, hga⟩; have HA := Lib.hid (H9.out.call hsa hga); clear hsa hga)
    | (go_at_call 87; refine (T6.out _ H8.out.src).mono ?_; rintro e w9 ⟨rfl, hs9, hg9⟩; have H9 := Lib.hid (H8.out.call hs9 hg9); clear hs9 hg9)
    | (go_at_call 87; refine (T5.out _ H7.out.src).mono ?_; rintro e w8 ⟨rfl, hs8, hg8⟩; have H8 := Lib.hid (H7.out.call hs8 hg8); clear hs8 hg8))
  have HE := Lib.hid ((((HD.out.store 2 (.string (S p5)) ⟨k, n, p5, [], [], [], m, d, u, f == 1⟩ rfl).store 3 (.string (S p6)) ⟨k, n, p5, p6, [], [], m, d, u, f == 1⟩ rfl).store 4 (.string (S p7)) ⟨k, n, p5, p6, p7, [], m, d, u, f == 1⟩ rfl).store 5 (.string (S p8)) ⟨k, n, p5, p6, p7, p8, m, d, u, f == 1⟩ rfl)
  generalize (((wd.setCell ⟨w.heap.size + 1 + 1, 2, none⟩ (.string (S p5))).setCell ⟨w.heap.size + 1 + 1, 3, none⟩ (.string (S p6))).setCell ⟨w.heap.size + 1 + 1, 4, none⟩ (.string (S p7))).setCell ⟨w.heap.size + 1 + 1, 5, none⟩ (.string (S p8)) = we at HE ⊢
  clear H7 H8 H9 HA HD c2 c3 c4 c5 z2 z3 z4 z5 T5 T6 T7 T8
  have hEe := hE.next HE.out.below
  have hEnc := recEncode_any ⟨k, n, p5, p6, p7, p8, m, d, u, f == 1⟩ hn lp we hEe
  have HR := HE.out.rc
  have HO := HE.out.out
  have HBe := Lib.hid HE.out.below
  have HSe := Lib.hid HE.out.size
  obtain ⟨c0, c1, c2, c3, c4, c5, c6, c7, c8, c9⟩ := HE.out.at
  have KEEP : Hid (∀ w', Below we.heap.size we w' → RecAt w' (w.heap.size + 1 + 1) ⟨k, n, p5, p6, p7, p8, m, d, u, f == 1⟩ ∧ RecAt w' w.heap.size noRec ∧ (∀ i, w'.frozen? ⟨w.heap.size, i, none⟩ = false) ∧ (∀ r', RecAt (recLay w' w.heap.size r') w.heap.size r' ∧ Below w.heap.size w (recLay w' w.heap.size r'))) := Lib.hid fun w' hb => by
    have q1 := (hb.block _ (lt_of_blk HR)).trans HR
    have q2 := (hb.block _ (lt_of_blk HO)).trans HO
    exact ⟨recAt_blk q1, recAt_blk q2, fun i => by simp [World.frozen?, q2], fun r' => ⟨(recLay_at r' q2).1, (HBe.out.trans (hb.mono HSe.out)).grown (recLay_at r' q2).2 (Nat.le_trans HSe.out hb.size) (fun q hq => by cases hq; exact Nat.le_refl _)⟩⟩
  clear HE HR HO HBe HSe hE hEe
  have hdec := Lib.hid (show Rk.dec n s = if Rk.right (Rk.read n s) = true ∧ Rk.enc (Rk.read n s) = s then some (Rk.read n s) else none from rfl)
  rw [HRD.out] at hdec
  clear HRD
  unfold encV at hEnc
  unfold recV at hEnc
  dsimp only at hEnc
  obtain ⟨r, hr⟩ : ∃ r : Rk.R, r = ⟨k, n, p5, p6, p7, p8, m, d, u, f == 1⟩ := ⟨_, rfl⟩
  rw [← hr] at hdec hEnc
  cases hq : Rk.right r with
  | false =>
    have HD : Hid (decV n s = .tuple #[recV noRec, .int .i64 8]) := Lib.hid (by unfold decV; rw [hdec.out, hq]; rfl)
    rw [hq, if_neg (by simp)] at hEnc
    clear hdec hr hq
    go_wp2_with (go_at_call 46; refine hEnc.mono ?_; rintro e wf ⟨rfl, hbf⟩; obtain ⟨-, ⟨o0, o1, o2, o3, o4, o5, o6, o7, o8, o9⟩, hfz, hlay⟩ := KEEP.out wf hbf; clear hbf KEEP hEnc c0 c1 c2 c3 c4 c5 c6 c7 c8 c9)
    obtain ⟨⟨z0, z1, z2, z3, z4, z5, z6, z7, z8, z9⟩, hbz⟩ := hlay noRec
    clear hlay hfz o0 o1 o2 o3 o4 o5 o6 o7 o8 o9
    change bodyPost Tryz.prog _ _ _ _ (recLay wf w.heap.size noRec)
    refine bodyPost_ret (v := .tuple #[recV noRec, .int .i64 8]) ?_ rfl ⟨by rw [HD.out], hbz⟩
    clear hbz
    generalize recLay wf w.heap.size noRec = wz at z0 z1 z2 z3 z4 z5 z6 z7 z8 z9
    simp [results, Tryz.results70, go_sem, z0, z1, z2, z3, z4, z5, z6, z7, z8, z9]
    rfl
  | true =>
    rw [hq, if_pos rfl] at hEnc
    by_cases hx : Rk.enc r = s
    · have HD : Hid (decV n s = .tuple #[recV r, .int .i64 0]) := Lib.hid (by unfold decV; rw [hdec.out, if_pos ⟨hq, hx⟩])
      have e1 : ((S (Rk.enc r)).toList == (S s).toList) = true := by rw [S_list, S_list]; simp [hx]
      have e2 : ((S (Rk.enc r)).toList != (S s).toList) = false := by unfold bne; rw [e1]; rfl
      clear hdec hx hq
      generalize Rk.enc r = x at e1 e2 hEnc
      go_wp2_with (go_at_call 46; refine hEnc.mono ?_; rintro e wf ⟨rfl, hbf⟩; obtain ⟨⟨d0, d1, d2, d3, d4, d5, d6, d7, d8, d9⟩, ⟨o0, o1, o2, o3, o4, o5, o6, o7, o8, o9⟩, hfz, hlay⟩ := KEEP.out wf hbf; clear hbf KEEP hEnc c0 c1 c2 c3 c4 c5 c6 c7 c8 c9)
      clear hfz o0 o1 o2 o3 o4 o5 o6 o7 o8 o9 d0 d1 d2 d3 d4 d5 d6 d7 d8 d9
      obtain ⟨⟨z0, z1, z2, z3, z4, z5, z6, z7, z8, z9⟩, hbz⟩ := hlay ⟨k, n, p5, p6, p7, p8, m, d, u, f == 1⟩
      clear hlay
      change bodyPost Tryz.prog _ _ _ _ (recLay wf w.heap.size ⟨k, n, p5, p6, p7, p8, m, d, u, f == 1⟩)
      refine bodyPost_ret (v := .tuple #[recV ⟨k, n, p5, p6, p7, p8, m, d, u, f == 1⟩, .int .i64 0]) ?_ rfl ⟨by rw [HD.out, hr], hbz⟩
      clear hbz
      generalize recLay wf w.heap.size ⟨k, n, p5, p6, p7, p8, m, d, u, f == 1⟩ = wz at z0 z1 z2 z3 z4 z5 z6 z7 z8 z9
      simp [results, Tryz.results70, go_sem, z0, z1, z2, z3, z4, z5, z6, z7, z8, z9]
      rfl
    · have HD : Hid (decV n s = .tuple #[recV noRec, .int .i64 8]) := Lib.hid (by unfold decV; rw [hdec.out, if_neg (fun h => hx h.2)])
      have e1 : ((S (Rk.enc r)).toList == (S s).toList) = false := by rw [S_list, S_list]; simp [hx]
      have e2 : ((S (Rk.enc r)).toList != (S s).toList) = true := by unfold bne; rw [e1]; rfl
      clear hdec hx hq hr
      generalize Rk.enc r = x at e1 e2 hEnc
      go_wp2_with (go_at_call 46; refine hEnc.mono ?_; rintro e wf ⟨rfl, hbf⟩; obtain ⟨-, ⟨o0, o1, o2, o3, o4, o5, o6, o7, o8, o9⟩, hfz, hlay⟩ := KEEP.out wf hbf; clear hbf KEEP hEnc c0 c1 c2 c3 c4 c5 c6 c7 c8 c9)
      obtain ⟨⟨z0, z1, z2, z3, z4, z5, z6, z7, z8, z9⟩, hbz⟩ := hlay noRec
      clear hlay hfz o0 o1 o2 o3 o4 o5 o6 o7 o8 o9
      change bodyPost Tryz.prog _ _ _ _ (recLay wf w.heap.size noRec)
      refine bodyPost_ret (v := .tuple #[recV noRec, .int .i64 8]) ?_ rfl ⟨by rw [HD.out], hbz⟩
      clear hbz
      generalize recLay wf w.heap.size noRec = wz at z0 z1 z2 z3 z4 z5 z6 z7 z8 z9
      simp [results, Tryz.results70, go_sem, z0, z1, z2, z3, z4, z5, z6, z7, z8, z9]
      rfl
end Go.Proofs.YtfeaonbeklmfgaaGreatDoor
