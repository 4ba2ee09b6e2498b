/- What package record's Comes, rightParent and Right answer, for any kinds, and any record with a name and a parent of at most 2^30 bytes. -/
import Derived.Test.YtfeaonbeklmfgaaGreatDoorRkP
namespace Go.Proofs.YtfeaonbeklmfgaaGreatDoor
set_option maxRecDepth 8000
open Go.RowKit

def recV (r : Rk.R) : Value := .agg #[.int .i64 r.kind, .string (S r.name), .string (S r.parent), .string (S r.user), .string (S r.service), .string (S r.url), .int .i64 r.made, .int .i64 r.used, .int .i64 r.uses, .bool r.fresh]
set_option maxHeartbeats 800000 in
theorem comes_any (k o : Int) (w : World) :
    Calls Tryz.prog 89 #[.int .i64 k, .int .i64 o] w fun e w' => e = .returned (.bool (Rk.comes k o)) ∧ w' = w := by
  obtain ⟨c, hc⟩ : ∃ c, c = Rk.comes k o := ⟨_, rfl⟩
  rw [← hc]
  have HC := Lib.hid hc
  clear hc
  go_enter Tryz.func89, Tryz.ntmps89
  go_wp2
  all_goals
    go_ret
    refine ⟨ret_bool ?_, rfl⟩
    rw [HC.out]
    unfold Rk.comes
    clear HC
    rw [Bool.eq_iff_iff]
    simp_all
    try omega
set_option maxHeartbeats 800000 in
theorem rightParent_any (k : Int) (p : List UInt8) (hl : p.length ≤ 1073741824) (w : World) (hE : EnvT w) :
    Calls Tryz.prog 72 #[.int .i64 k, .string (S p)] w fun e w' => e = .returned (.bool (((Tk.tell p).2.2 || p.isEmpty) && Rk.comes k (Tk.tell p).1)) ∧ Below w.heap.size w w' := by
  have hP := parse_any p hl w hE
  have hS := S_empty p
  unfold tellV at hP
  generalize (Tk.tell p).1 = o at hP ⊢
  generalize (Tk.tell p).2.1 = n at hP
  generalize (Tk.tell p).2.2 = b at hP ⊢
  generalize p.isEmpty = m at hS ⊢
  have hC := comes_any k o
  generalize Rk.comes k o = c at hC ⊢
  cases b <;> cases m <;>
    (go_enter Tryz.func72, Tryz.ntmps72
     go_wp2_with (first
       | (go_at_call 88; refine hP.mono ?_; rintro e w' ⟨rfl, hb⟩)
       | (go_at_call 89; refine (hC _).mono ?_; rintro e w' ⟨rfl, rfl⟩))
     go_ret
     exact ⟨rfl, hb⟩)
/-- A record's ten cells. -/
def recCs (r : Rk.R) : Array Value := #[.int .i64 r.kind, .string (S r.name), .string (S r.parent), .string (S r.user), .string (S r.service), .string (S r.url), .int .i64 r.made, .int .i64 r.used, .int .i64 r.uses, .bool r.fresh]
structure RecAt (w : World) (b : Nat) (r : Rk.R) : Prop where
  kind : w.cell? ⟨b, 0, none⟩ = some (.int .i64 r.kind)
  name : w.cell? ⟨b, 1, none⟩ = some (.string (S r.name))
  parent : w.cell? ⟨b, 2, none⟩ = some (.string (S r.parent))
  user : w.cell? ⟨b, 3, none⟩ = some (.string (S r.user))
  service : w.cell? ⟨b, 4, none⟩ = some (.string (S r.service))
  url : w.cell? ⟨b, 5, none⟩ = some (.string (S r.url))
  made : w.cell? ⟨b, 6, none⟩ = some (.int .i64 r.made)
  used : w.cell? ⟨b, 7, none⟩ = some (.int .i64 r.used)
  uses : w.cell? ⟨b, 8, none⟩ = some (.int .i64 r.uses)
  fresh : w.cell? ⟨b, 9, none⟩ = some (.bool r.fresh)
theorem recAt_blk {w : World} {b : Nat} {r : Rk.R} (e : w.heap[b]? = some (.cells (recCs r) 30 (0, 0))) : RecAt w b r :=
  ⟨cell_of_row w _ 0 _ _ _ e, cell_of_row w _ 1 _ _ _ e, cell_of_row w _ 2 _ _ _ e, cell_of_row w _ 3 _ _ _ e, cell_of_row w _ 4 _ _ _ e, cell_of_row w _ 5 _ _ _ e, cell_of_row w _ 6 _ _ _ e, cell_of_row w _ 7 _ _ _ e, cell_of_row w _ 8 _ _ _ e, cell_of_row w _ 9 _ _ _ e⟩
/-- A copy of a record's, and where it is kept. -/
theorem recAt_alloc (w : World) (r : Rk.R) : Hid (∀ w', Below (w.heap.size + 1) (w.alloc (.cells (recCs r) 30)) w' → RecAt w' w.heap.size r) := Lib.hid fun _ hb => recAt_blk ((hb.block _ (Nat.lt_succ_self _)).trans (heap_alloc_new w _))
set_option maxHeartbeats 1600000 in
theorem recRight_any (r : Rk.R) (hn : r.name.length ≤ 1073741824) (hp : r.parent.length ≤ 1073741824) (w : World) (hE : EnvT w) :
    Calls Tryz.prog 55 #[recV r] w fun e w' => e = .returned (.bool (Rk.right r)) ∧ Below w.heap.size w w' := by
  have HC := recAt_alloc w r
  have hI := fun w' h => is_any r.name r.kind hn w' h
  have hQ := fun w' h => rightParent_any r.kind r.parent hp w' h
  have HR : Hid (Rk.right r = (Rk.okName r && Rk.okParent r && Rk.okRest r)) := Lib.hid rfl
  unfold Rk.okName Rk.okParent Rk.okRest at HR
  generalize (((Tk.tell r.name).2.2 && decide (((Tk.tell r.name).1 : Int) = r.kind))) = q1 at hI HR
  generalize (((Tk.tell r.parent).2.2 || r.parent.isEmpty) && Rk.comes r.kind (Tk.tell r.parent).1) = q2 at hQ HR
  generalize Rk.right r = q at HR ⊢
  obtain ⟨kind, name, parent, user, service, url, made, used, uses, fresh⟩ := r
  dsimp only at hn hp hI hQ HR
  unfold recCs at HC
  dsimp only at HC
  unfold recV
  dsimp only
  obtain ⟨wb, hwb⟩ : ∃ wb, wb = w.alloc (.cells #[.int .i64 kind, .string (S name), .string (S parent), .string (S user), .string (S service), .string (S url), .int .i64 made, .int .i64 used, .int .i64 uses, .bool fresh] 30) := ⟨_, rfl⟩
  have hbb : Below w.heap.size w wb := by rw [hwb]; exact (Below.refl _ _).alloc (Nat.le_refl _) _
  have hEb := hE.next hbb
  have hsz : wb.heap.size = w.heap.size + 1 := by rw [hwb]; simp
  rw [← hwb, ← hsz] at HC
  have su : (S user).size = user.length := rfl
  have ss : (S service).size = service.length := rfl
  have sl : (S url).size = url.length := rfl
  obtain ⟨c0, c1, -, -, -, -, -, -, -, -⟩ := HC.out wb (Below.refl _ _)
  go_enter Tryz.func55, Tryz.ntmps55
  go_upto_region 1 with fail
  rw [← hwb]
  clear hwb hsz
  go_wp2_with fail
  refine (hI _ hEb).mono ?_
  rintro _ w1 ⟨rfl, hb1⟩
  have hE1 := hEb.next hb1
  obtain ⟨d0, -, d2, -, -, -, -, -, -, -⟩ := HC.out w1 hb1
  clear c0 c1 hI hE
  have HB := Lib.hid (hbb.trans (hb1.mono hbb.size))
  cases q1 with
  | false =>
    go_wp2_with fail
    go_ret
    exact ⟨ret_bool (by rw [HR.out]; simp), HB.out⟩
  | true =>
  go_wp2_with fail
  refine (hQ _ hE1).mono ?_
  rintro _ w2 ⟨rfl, hb2⟩
  have hb12 := hb1.trans (hb2.mono hb1.size)
  obtain ⟨-, -, -, e3, e4, e5, e6, e7, e8, -⟩ := HC.out w2 hb12
  have HB2 := Lib.hid (hbb.trans (hb12.mono hbb.size))
  clear hQ d0 d2 HB hb1 hb2 hb12 hbb hE1 hEb HC
  cases q2 with
  | false =>
    go_wp2_with fail
    go_ret
    exact ⟨ret_bool (by rw [HR.out]; simp), HB2.out⟩
  | true =>
  go_wp2_with fail
  all_goals
    go_ret
    refine ⟨ret_bool ?_, HB2.out⟩
    rw [HR.out, Bool.eq_iff_iff]
    simp only [su, ss, sl] at *
    simp
    omega
end Go.Proofs.YtfeaonbeklmfgaaGreatDoor
