/- A tree in memory; slices.IndexFunc over records; package tree's place and has. No condition but how many records there are. -/
import Derived.Test.YtfeaonbeklmfgaaGreatDoorTrA
namespace Go.Proofs.YtfeaonbeklmfgaaGreatDoor
set_option maxRecDepth 8000
open Go.RowKit

/-- But for the blocks of F all that was there is as it was. -/
structure OutT (F : Nat → Prop) (w w' : World) : Prop where
  os : w'.os = w.os
  tape : w'.tape = w.tape
  output : w'.output = w.output
  size : w.heap.size ≤ w'.heap.size
  block : ∀ b, b < w.heap.size → ¬ F b → w'.heap[b]? = w.heap[b]?
theorem OutT.of {F : Nat → Prop} {w w' : World} (h : Below w.heap.size w w') : OutT F w w' := ⟨h.os, h.tape, h.output, h.size, fun b hb _ => h.block b hb⟩
theorem OutT.refl (F : Nat → Prop) (w : World) : OutT F w w := OutT.of (Below.refl _ _)
theorem OutT.mono {F G : Nat → Prop} {w w' : World} (h : OutT F w w') (hs : ∀ x, x < w.heap.size → F x → G x) : OutT G w w' := ⟨h.os, h.tape, h.output, h.size, fun b hb hn => h.block b hb (fun hx => hn (hs b hb hx))⟩
theorem OutT.trans {F G H : Nat → Prop} {w w1 w2 : World} (h : OutT F w w1) (k : OutT G w1 w2) (hF : ∀ x, x < w.heap.size → F x → H x) (hG : ∀ x, x < w.heap.size → G x → H x) : OutT H w w2 :=
  ⟨k.os.trans h.os, k.tape.trans h.tape, k.output.trans h.output, Nat.le_trans h.size k.size, fun b hb hn => (k.block b (Nat.lt_of_lt_of_le hb h.size) (fun hx => hn (hG b hb hx))).trans (h.block b hb (fun hx => hn (hF b hb hx)))⟩
theorem OutT.below {F : Nat → Prop} {w w' : World} {base : Nat} (h : OutT F w w') (hF : ∀ x, x < w.heap.size → F x → base ≤ x) (hb : base ≤ w.heap.size) : Below base w w' :=
  ⟨h.os, h.tape, h.output, h.size, fun b hlt => h.block b (by omega) (fun hx => absurd (hF b (by omega) hx) (by omega))⟩
theorem OutT.set {F : Nat → Prop} {w : World} {P j : Nat} (v : Value) (hP : F P) : OutT F w (w.setCell ⟨P, j, none⟩ v) := ⟨rfl, rfl, rfl, by rw [World.size_setCell]; exact Nat.le_refl _, fun b _ hn => Below.heap_setCell w ⟨P, j, none⟩ v b (fun e => hn (by rw [e]; exact hP))⟩
theorem OutT.grown {F : Nat → Prop} {w w' : World} {row : Option Nat} (h : w.grownBy w' row) (hr : ∀ k, row = some k → F k) : OutT F w w' := ⟨h.os, h.tape, h.output, h.size, fun b hb hn => h.block b hb (fun e => hn (hr b e.symm))⟩
/-- Behind a step there may be new blocks. -/
def OrT (F : Nat → Prop) (s t : Nat) : Nat → Prop := fun x => F x ∨ s ≤ x ∧ x < t
/-- A row is kept where its block is. -/
theorem own_kept {w w' : World} {base : Nat} {e : TypeId} {size : Nat} {v : Value} {n : Nat} {xs : List Value} (h : w.ownsRow base e size v n xs) (hs : ∀ k, v.ownBlock = some k → w'.heap[k]? = w.heap[k]?) : w'.ownsRow base e size v n xs := by
  refine ⟨h.1, ?_⟩
  rcases h.2 with hn | ⟨g, cap, cur, rfl, hb, hgg, rest⟩
  · exact .inl hn
  · exact .inr ⟨g, cap, cur, rfl, hb, (hs g rfl).trans hgg, rest⟩
theorem own_base {w : World} {base base' : Nat} {e : TypeId} {size : Nat} {v : Value} {n : Nat} {xs : List Value} (h : w.ownsRow base e size v n xs) (hs : ∀ k, v.ownBlock = some k → base' ≤ k) : w.ownsRow base' e size v n xs := by
  refine ⟨h.1, ?_⟩
  rcases h.2 with hn | ⟨g, cap, cur, rfl, hb, rest⟩
  · exact .inl hn
  · exact .inr ⟨g, cap, cur, rfl, hs g rfl, rest⟩
/-- A tree at T, whose blocks are of G: T and its records' own. -/
def TreeAt (G : Nat → Prop) (w : World) (T : Nat) (room : Nat) (l : List Rk.R) : Prop :=
  ∃ v, w.heap[T]? = some (.cells #[.int .i64 room, v] 69 (0, 0)) ∧ RRow 0 w v l ∧ G T ∧ ∀ k, v.ownBlock = some k → G k
theorem TreeAt.out {G H : Nat → Prop} {w w' : World} {T room : Nat} {l : List Rk.R} (h : TreeAt G w T room l) (ho : OutT H w w') (hn : ∀ x, G x → x < w.heap.size → ¬ H x) : TreeAt G w' T room l := by
  obtain ⟨v, h1, h2, h3, h4⟩ := h
  have hT : T < w.heap.size := (Array.getElem?_eq_some_iff.1 h1).1
  exact ⟨v, (ho.block T hT (hn T h3 hT)).trans h1, own_kept h2 (fun k hk => ho.block k (World.ownsRow.lt h2 k hk).2 (hn k (h4 k hk) (World.ownsRow.lt h2 k hk).2)), h3, h4⟩
theorem TreeAt.keep {G : Nat → Prop} {w w' : World} {T room : Nat} {l : List Rk.R} (h : TreeAt G w T room l) (hb : Below w.heap.size w w') : TreeAt G w' T room l :=
  h.out (H := fun _ => False) (OutT.of hb) (fun _ _ _ h => h)
theorem TreeAt.mono {G G' : Nat → Prop} {w : World} {T room : Nat} {l : List Rk.R} (h : TreeAt G w T room l) (hs : ∀ x, G x → G' x) : TreeAt G' w T room l := by
  obtain ⟨v, h1, h2, h3, h4⟩ := h
  exact ⟨v, h1, h2, hs _ h3, fun k hk => hs _ (h4 k hk)⟩
theorem TreeAt.lt {G : Nat → Prop} {w : World} {T room : Nat} {l : List Rk.R} (h : TreeAt G w T room l) : T < w.heap.size := by
  obtain ⟨v, h1, _⟩ := h
  exact (Array.getElem?_eq_some_iff.1 h1).1
/-- The tree's two cells, and where its records lie. -/
theorem TreeAt.cells {G : Nat → Prop} {w : World} {T room : Nat} {l : List Rk.R} (h : TreeAt G w T room l) : w.cell? ⟨T, 0, none⟩ = some (.int .i64 room) ∧ ∃ A cap, w.cell? ⟨T, 1, none⟩ = some (.slice A l.length cap) ∧ RCells w w.heap.size A l := by
  obtain ⟨v, h1, h2, _⟩ := h
  obtain ⟨A, cap, rfl, h5⟩ := h2.form
  exact ⟨cell_of_row w T 0 _ _ _ h1, A, cap, cell_of_row w T 1 _ _ _ h1, h5⟩

/-- A closure over one variable that tells of records. -/
abbrev prV (n k : Nat) : Value := .func (.func n) #[] #[.pointer (some ⟨k, 0, none⟩)]
/-- The closures over one variable. -/
def PredFn (n : Nat) : Prop := n = 63 ∨ n = 58
def PredOk (n k : Nat) (F : Nat → Prop) (w : World) (p : Rk.R → Bool) : Prop :=
  ∀ (r : Rk.R) (w' : World), OutT F w w' → Calls Tryz.prog n #[recV r, .pointer (some ⟨k, 0, none⟩)] w' fun e w'' => e = .returned (.bool (p r)) ∧ Below w'.heap.size w' w''
theorem ret_boolT {a b : Bool} (h : a = b) : Ending.returned (.bool a) = .returned (.bool b) := by rw [h]
set_option maxHeartbeats 400000 in
theorem place1_any (n : List UInt8) (r : Rk.R) (k : Nat) (W : World) (hB : W.cell? ⟨k, 0, none⟩ = some (.string (S n))) (hk : k < W.heap.size) :
    Calls Tryz.prog 63 #[recV r, .pointer (some ⟨k, 0, none⟩)] W fun e w' => e = .returned (.bool (decide (r.name = n))) ∧ Below W.heap.size W w' := by
  have hR := At10.new W r
  have hb : Below W.heap.size W (W.alloc (.cells (recCs r) 30)) := (Below.refl _ _).alloc (Nat.le_refl _) _
  have hc := (hb.cell (p := ⟨k, 0, none⟩) hk).trans hB
  have hS := S_beq r.name n
  obtain ⟨kind, name, parent, user, service, url, made, used, uses, fresh⟩ := r
  unfold recCs at hR hb hc
  unfold recV
  dsimp only at hR hb hc hS ⊢
  have d1 := hR.c1
  dsimp only at d1
  obtain ⟨wb, hwb⟩ : ∃ wb, wb = W.alloc (.cells #[.int .i64 kind, .string (S name), .string (S parent), .string (S user), .string (S service), .string (S url), .int .i64 made, .int .i64 used, .int .i64 uses, .bool fresh] 30) := ⟨_, rfl⟩
  rw [← hwb] at d1 hb hc
  have HB := Lib.hid hb
  generalize decide (name = n) = q at hS ⊢
  clear hR hb hB
  go_enter Tryz.func63, Tryz.ntmps63
  go_upto_region 1 with fail
  rw [← hwb]
  clear hwb
  go_wp2
  go_ret
  exact ⟨ret_boolT (by first | rfl | exact hS), HB.out⟩
theorem place1_ok (n : List UInt8) (k : Nat) (F : Nat → Prop) (w : World) (hB : w.cell? ⟨k, 0, none⟩ = some (.string (S n))) (hk : k < w.heap.size) (hF : ¬ F k) : PredOk 63 k F w (fun r => decide (r.name = n)) := fun r w' ho =>
  place1_any n r k w' ((World.cell?_of_block (ho.block k hk hF)).trans hB) (Nat.lt_of_lt_of_le hk ho.size)

/-- The first one's place; -1, if there is none. -/
def idxI (p : Rk.R → Bool) (l : List Rk.R) : Int := if l.findIdx p < l.length then (l.findIdx p : Int) else -1
theorem idxI_hit {p : Rk.R → Bool} {l : List Rk.R} {k : Nat} (hk : k < l.length) (h : p l[k] = true) (hall : ∀ j (hj : j < l.length), j < k → p l[j] = false) : idxI p l = (k : Int) := by
  have e : l.findIdx p = k := (List.findIdx_eq hk).2 ⟨h, fun j hj => hall j (by omega) hj⟩
  unfold idxI
  rw [e, if_pos hk]
theorem idxI_miss {p : Rk.R → Bool} {l : List Rk.R} (hall : ∀ j (hj : j < l.length), p l[j] = false) : idxI p l = -1 := by
  have e : l.findIdx p = l.length := List.findIdx_eq_length.2 (fun x hx => by
    obtain ⟨j, hj, rfl⟩ := List.getElem_of_mem hx
    rw [hall j hj])
  unfold idxI
  rw [e, if_neg (Nat.lt_irrefl _)]
set_option maxHeartbeats 800000 in
theorem indexR_any (n k : Nat) (hn : PredFn n) (p : Rk.R → Bool) (A : Option Addr) (cap : Nat) (l : List Rk.R) (w : World) (hP : PredOk n k (fun _ => False) w p) (hc : RCells w w.heap.size A l) (hl : l.length ≤ 1048576) :
    Calls Tryz.prog 62 #[.slice A l.length cap, prV n k] w fun e w' => e = .returned (.int .i64 (idxI p l)) ∧ Below w.heap.size w w' := by
  have HP := Lib.hid hP
  have HCC := Lib.hid hc
  clear hP hc
  rcases hn with rfl | rfl
  all_goals
    go_enter Tryz.func62, Tryz.ntmps62
    go_wp2_with fail
    go_loopw [8] (fun i wr => ∃ k : Nat, k ≤ l.length ∧ i = .int .i64 k ∧ (∀ j (hj : j < l.length), j < k → p l[j] = false) ∧ Below w.heap.size w wr) (fun i _ => l.length - (intOf i).toNat)
    case atStart => exact ⟨0, Nat.zero_le _, rfl, fun j _ hj => absurd hj (by omega), Below.refl _ _⟩
    case round =>
      obtain ⟨j, hj, rfl, hall, hb⟩ := hrel
      have HALL := Lib.hid hall
      clear hall
      have hbs := hb.size
      by_cases hlt : j < l.length
      · obtain ⟨b, off, rfl, hbb, h6⟩ := HCC.out.at10 j hlt
        have hS := HP.out l[j] wr (OutT.of hb)
        have hat := h6.keep hb hbb
        have HX := Lib.hid (rfl : p l[j] = p l[j])
        obtain ⟨q, hq⟩ : ∃ q, q = p l[j] := ⟨_, rfl⟩
        rw [← hq] at hS
        have HQ := Lib.hid hq
        clear h6 HX hq
        generalize l[j] = x at hS hat
        obtain ⟨d0, d1, d2, d3, d4, d5, d6, d7, d8, d9⟩ := hat
        have n0 : (0 : Int) ≤ (j : Int) := by omega
        have n1 : (j : Int) < (l.length : Int) := by omega
        cases q with
        | true =>
          have HF := Lib.hid (idxI_hit hlt HQ.out.symm HALL.out)
          go_wp2_with fail
          refine hS.mono ?_
          rintro e w1 ⟨rfl, hb1⟩
          go_wp2_with fail
          go_ret
          exact ⟨by rw [HF.out]; rfl, hb.trans (hb1.mono hbs)⟩
        | false =>
          go_wp2_with fail
          refine hS.mono ?_
          rintro e w1 ⟨rfl, hb1⟩
          go_wp2_with fail
          go_roundw
          case rel =>
            refine ⟨j + 1, by omega, by go_num, fun i hi hij => ?_, hb.trans (hb1.mono hbs)⟩
            by_cases e : i = j
            · subst e; exact HQ.out.symm
            · exact HALL.out i hi (by omega)
          case measure => simp [intOf]; omega
      · have HF := Lib.hid (idxI_miss (fun i hi => HALL.out i hi (by omega)))
        go_wp2
        go_ret
        exact ⟨by rw [HF.out]; rfl, hb⟩
/-- Where a name lies, as the program tells it. -/
def plI (l : List Rk.R) (n : List UInt8) : Int := if Tr.pl l n < l.length then (Tr.pl l n : Int) else -1
set_option maxHeartbeats 800000 in
theorem place_any {G : Nat → Prop} {w : World} {T room : Nat} {l : List Rk.R} (n : List UInt8) (h : TreeAt G w T room l) (hl : l.length ≤ 1048576) :
    Calls Tryz.prog 42 #[.pointer (some ⟨T, 0, none⟩), .string (S n)] w fun e w' => e = .returned (.int .i64 (plI l n)) ∧ Below w.heap.size w w' := by
  obtain ⟨wb, hwb⟩ : ∃ wb, wb = w.alloc (.cells #[.string (S n)] 9) := ⟨_, rfl⟩
  have hbb : Below w.heap.size w wb := by rw [hwb]; exact (Below.refl _ _).alloc (Nat.le_refl _) _
  have hcell : wb.cell? ⟨w.heap.size, 0, none⟩ = some (.string (S n)) := by rw [hwb]; exact cell_of_row _ _ 0 _ _ _ (heap_alloc_new w _)
  have hlt : w.heap.size < wb.heap.size := by rw [hwb]; simp
  obtain ⟨c0, A, cap, c1, hc⟩ := (h.keep hbb).cells
  have HI := Lib.hid (indexR_any 63 w.heap.size (.inl rfl) _ A cap l wb (place1_ok n w.heap.size _ wb hcell hlt (fun h => h)) hc hl)
  have HB := Lib.hid hbb
  clear h hc hbb hcell
  go_enter Tryz.func42, Tryz.ntmps42
  go_upto_region 1 with fail
  rw [← hwb]
  clear hwb
  go_wp2_with fail
  refine HI.out.mono ?_
  rintro e w1 ⟨rfl, hb1⟩
  go_wp2_with fail
  go_ret
  exact ⟨rfl, HB.out.trans (hb1.mono HB.out.size)⟩
theorem has_any {G : Nat → Prop} {w : World} {T room : Nat} {l : List Rk.R} (n : List UInt8) (h : TreeAt G w T room l) (hl : l.length ≤ 1048576) :
    Calls Tryz.prog 44 #[.pointer (some ⟨T, 0, none⟩), .string (S n)] w fun e w' => e = .returned (.bool (Tr.has l n)) ∧ Below w.heap.size w w' := by
  have HI := Lib.hid (place_any n h hl)
  clear h
  obtain ⟨q, hq⟩ : ∃ q, q = plI l n := ⟨_, rfl⟩
  have HQ := Lib.hid (show Tr.has l n = decide (0 ≤ q) by
    rw [hq]
    unfold plI Tr.has
    split
    · next h => rw [decide_eq_true h, decide_eq_true (by omega)]
    · next h => rw [decide_eq_false h]; rfl)
  rw [← hq] at HI
  clear hq
  go_enter Tryz.func44, Tryz.ntmps44
  go_wp2_with fail
  refine HI.out.mono ?_
  rintro e w1 ⟨rfl, hb1⟩
  go_wp2_with fail
  go_ret
  exact ⟨ret_boolT (by rw [HQ.out]), hb1⟩
end Go.Proofs.YtfeaonbeklmfgaaGreatDoor
