/- What package cookie's Line and the document's Line answer, for any slice of at most 50 pairs of at most 1000 bytes. -/
import Derived.Test.YtpdilhnbbokipaaDoorCc
import Derived.Test.YtpdilhnbbokipaaDoorCbld
namespace Go.Proofs.YtpdilhnbbokipaaDoor
set_option maxRecDepth 8000
open Go.RowKit

/-- The builder in block b holds acc; block g holds a pair; below the call's start nothing has turned. -/
def St (w0 : World) (b : Nat) (acc : List UInt8) (g : Nat) (n v : List UInt8) (w : World) : Prop :=
  Bld w0.heap.size b acc w ∧ w.heap[g]? = some (.cells #[.string (S n), .string (S v)] 41 (0, 0)) ∧ Below w0.heap.size w0 w
section
variable {w0 w : World} {b g : Nat} {acc n v : List UInt8}
theorem St.cell0 (h : St w0 b acc g n v w) : w.cell? ⟨g, 0, none⟩ = some (.string (S n)) := cell_of_row w g 0 _ _ _ h.2.1
theorem St.cell1 (h : St w0 b acc g n v w) : w.cell? ⟨g, 1, none⟩ = some (.string (S v)) := cell_of_row w g 1 _ _ _ h.2.1
theorem st_text (h : St w0 b acc g n v w) (s : List UInt8) (hl : acc.length ≤ 1000000) (hs : s.length ≤ 1000000) :
    Calls Tryd.prog 38 #[.pointer (some ⟨b, 0, none⟩), .string (S s)] w fun e w' => e = .returned (.tuple #[.int .i64 ((S s).size : Int), .nilIface]) ∧ St w0 b (acc ++ s) g n v w' :=
  (writeString_any w0.heap.size b acc s w h.1 (by omega) h.2.2.size).mono fun _ _ ⟨he, hb, hbe, hk⟩ => ⟨he, hb, hk _ _ h.2.1, h.2.2.trans hbe⟩
end
theorem st_new {w0 wr : World} {b : Nat} {acc : List UInt8} (n v : List UInt8) (h : Bld w0.heap.size b acc wr) (hb : Below w0.heap.size w0 wr) : St w0 b acc wr.heap.size n v (wr.alloc (.cells #[.string (S n), .string (S v)] 41)) :=
  ⟨h.below ((Below.refl _ _).alloc (Nat.le_refl _) _), heap_alloc_new wr _, hb.alloc hb.size _⟩
def FreshB (w : World) (b : Nat) : Prop := w.heap[b]? = some (.cells #[.pointer none, .slice none 0 0] 63 (0, 0))

def short1 (q : Pct.PairL) : Bool := decide (q.1.length ≤ 1000) && decide (q.2.length ≤ 1000)
theorem few_short {l : List Pct.PairL} (h : fewB l = true) : l.all short1 = true ∧ l.length ≤ 50 := by
  unfold fewB at h
  have h : l.all few1 = true ∧ l.length ≤ 50 := by simpa using h
  refine ⟨?_, h.2⟩
  rw [List.all_eq_true]
  intro x hx
  have h1 := List.all_eq_true.1 h.1 x hx
  unfold few1 at h1
  unfold short1
  simp at h1 ⊢
  omega
theorem line_len : ∀ (l : List Pct.PairL), l.all short1 = true → (Ck.line l).length ≤ 2003 * l.length
  | [], _ => by simp [Ck.line]
  | [q], h => by
    simp only [List.all_cons, List.all_nil, Bool.and_true] at h
    unfold short1 at h
    simp at h
    simp [Ck.line, Ck.one]
    omega
  | q :: q' :: r, h => by
    rw [List.all_cons, Bool.and_eq_true] at h
    have ih := line_len (q' :: r) h.2
    have h1 := h.1
    unfold short1 at h1
    simp at h1
    rw [Ck.line_two]
    simp only [List.length_append, List.length_cons, Ck.one] at ih ⊢
    omega
theorem line_ne {l : List Pct.PairL} (h : l ≠ []) : Ck.line l ≠ [] := by
  match l, h with
  | [q], _ => exact Ck.one_ne q
  | q :: q' :: r, _ => rw [Ck.line_two]; simp

set_option maxHeartbeats 1600000 in
theorem line_any (A : Option Addr) (cap : Nat) (l : List Pct.PairL) (w : World) (hl : PCells w w.heap.size A l) (hall : l.all short1 = true) (h50 : l.length ≤ 50) :
    Calls Tryd.prog 14 #[.slice A l.length cap] w (Told w (.returned (.string (S (Ck.line l))))) := by
  have HALL := Lib.hid hall
  clear hall
  go_enter Tryd.func14, Tryd.ntmps14
  go_wp2
  go_loopw [8] (fun i wr => ∃ k : Nat, k ≤ l.length ∧ i = .int .i64 k ∧ Bld w.heap.size w.heap.size (Ck.line (l.take k)) wr ∧ Below w.heap.size w wr ∧ (k = 0 → FreshB wr w.heap.size)) (fun i _ => l.length - (intOf i).toNat)
  case atStart => exact ⟨0, Nat.zero_le _, rfl, Lib.fresh_isBuilder _ _ w, (Below.refl _ _).alloc (Nat.le_refl _) _, fun _ => heap_alloc_new w _⟩
  case round =>
    obtain ⟨k, hk, rfl, hbld, hb, hfr⟩ := hrel
    have HFR := Lib.hid hfr
    clear hfr
    have HTL := Lib.hid (show (Ck.line (l.take k)).length ≤ 2003 * k by
      have h1 := line_len (l.take k) (by
        rw [List.all_eq_true]
        intro x hx
        exact List.all_eq_true.1 HALL.out x (List.mem_of_mem_take hx))
      have h2 : (l.take k).length ≤ k := List.length_take_le _ _
      omega)
    obtain ⟨acc, hacc⟩ : ∃ acc, acc = Ck.line (l.take k) := ⟨_, rfl⟩
    rw [← hacc] at hbld
    have hal : acc.length ≤ 100200 := by rw [hacc]; have := HTL.out; omega
    have HACC := Lib.hid hacc
    clear hacc HTL
    by_cases hlt : k < l.length
    · obtain ⟨ab, off, rfl, hbb, hc⟩ := hl (by omega)
      obtain ⟨c0', c1'⟩ := hc k hlt
      clear hc
      obtain ⟨n, hn⟩ : ∃ n, n = l[k].1 := ⟨_, rfl⟩
      obtain ⟨v, hv⟩ : ∃ v, v = l[k].2 := ⟨_, rfl⟩
      have hf1 : short1 l[k] = true := List.all_eq_true.1 HALL.out _ (List.getElem_mem hlt)
      have hn60 : n.length ≤ 1000 := by unfold short1 at hf1; simp at hf1; rw [hn]; exact hf1.1
      have hv60 : v.length ≤ 1000 := by unfold short1 at hf1; simp at hf1; rw [hv]; exact hf1.2
      rw [← hn] at c0'
      rw [← hv] at c1'
      have c0 : wr.cell? ⟨ab, off + k * 2, none⟩ = some (.string (S n)) := (hb.cell (p := ⟨ab, off + k * 2, none⟩) hbb).trans c0'
      have c1 : wr.cell? ⟨ab, off + k * 2 + 1, none⟩ = some (.string (S v)) := (hb.cell (p := ⟨ab, off + k * 2 + 1, none⟩) hbb).trans c1'
      have n0 : (0 : Int) ≤ (k : Int) := by omega
      have n1 : (k : Int) < (l.length : Int) := by omega
      have st0 := st_new n v hbld hb
      have HNV := Lib.hid (show l[k] = (n, v) by rw [hn, hv])
      have a1 := fun w' : World => (show (Op.stringOp .add (S n) ⟨#[61]⟩).run Tryd.prog w' = .ok (.string (S (n ++ [61]))) w' from run_add_S w' n [61] (by simp; omega))
      have a2 := fun w' : World => run_add_S w' (n ++ [61]) v (by simp; omega)
      have hzl : (n ++ [61] ++ v).length ≤ 2010 := by simp; omega
      obtain ⟨y, hy⟩ : ∃ y, y = n ++ [61] := ⟨_, rfl⟩
      obtain ⟨z, hz⟩ : ∃ z, z = n ++ [61] ++ v := ⟨_, rfl⟩
      rw [← hy] at a1 a2
      rw [← hy] at hz
      rw [← hz] at a2
      rw [hy] at hz
      rw [← hz] at hzl
      have HZ := Lib.hid hz
      clear hn hv hf1 c0' c1' hbld hl hy hz
      by_cases h0 : k = 0
      · have HN := Lib.hid (show Ck.line (l.take (k + 1)) = acc ++ z by
          rw [HZ.out, List.take_succ_eq_append_getElem hlt, HNV.out, HACC.out, h0]
          simp [Ck.line, Ck.one])
        have hk0 : (k : Int) ≤ 0 := by omega
        clear h0
        have d0 := st0.cell0
        have d1 := st0.cell1
        go_wp2_with fail
        refine (st_text st0 z (by omega) (by omega)).mono ?_
        rintro e w3 ⟨rfl, st3⟩
        go_wp2
        go_roundw
        case rel => exact ⟨k + 1, by omega, by go_num, by rw [HN.out]; exact st3.1, st3.2.2, fun h => absurd h (by omega)⟩
        case measure => simp [intOf]; omega
      · have HN := Lib.hid (show Ck.line (l.take (k + 1)) = acc ++ [59, 32] ++ z by
          rw [HZ.out, List.take_succ_eq_append_getElem hlt, HNV.out, Ck.line_snoc, if_neg (by
            intro h
            have := congrArg List.length h
            rw [List.length_take, Nat.min_eq_left (by omega)] at this
            exact h0 (by simpa using this)), HACC.out]
          simp [Ck.one])
        have hk0 : (0 : Int) < (k : Int) := by omega
        clear h0
        go_wp2_with fail
        refine (st_text st0 [59, 32] (by omega) (by simp)).mono ?_
        rintro e w1 ⟨rfl, st1⟩
        have d0 := st1.cell0
        have d1 := st1.cell1
        clear st0
        go_wp2_with fail
        refine (st_text st1 z (by simp; omega) (by omega)).mono ?_
        rintro e w3 ⟨rfl, st3⟩
        go_wp2
        go_roundw
        case rel => exact ⟨k + 1, by omega, by go_num, by rw [HN.out]; exact st3.1, st3.2.2, fun h => absurd h (by omega)⟩
        case measure => simp [intOf]; omega
    · have hkl : k = l.length := by omega
      have HW := Lib.hid (show acc = Ck.line l by rw [HACC.out, List.take_of_length_le (by omega)])
      have hbs := hb.size
      by_cases h0 : k = 0
      · have hfresh := HFR.out h0
        have HE := Lib.hid (show Ck.line l = [] by rw [show l = [] from List.length_eq_zero_iff.1 (by omega)]; rfl)
        clear hkl h0
        have HFS := Lib.hid hfresh
        clear hfresh
        go_wp2_with fail
        refine (string_nil w.heap.size w.heap.size (.pointer none) wr HFS.out).mono ?_
        rintro e w7 ⟨rfl, hb7⟩
        go_wp2
        go_ret
        exact ⟨by rw [HE.out]; rfl, hb.trans hb7⟩
      · have HNE := Lib.hid (show acc ≠ [] by rw [HW.out]; exact line_ne (by intro h; rw [h] at hkl; simp at hkl; exact h0 hkl))
        clear hkl h0
        go_wp2_with fail
        refine (string_some w.heap.size w.heap.size acc wr hbld HNE.out).mono ?_
        rintro e w7 ⟨rfl, hb7⟩
        go_wp2
        go_ret
        exact ⟨by rw [HW.out]; rfl, hb.trans hb7⟩

end Go.Proofs.YtpdilhnbbokipaaDoor
