/- What the statements' own call awake does: it answers true, where the table of digits reads as its text lays it. -/
import Derived.Test.YtlibjaggbhmkkaaDoorWalkG
namespace Go.Proofs.YtlibjaggbhmkkaaDoor
open Go.RowKit

theorem form_ok (l : List UInt8) (x : List Pct.PairL) (w : World) (hd : Digs w) (hl : l.length ≤ 1073741824) (h : Pct.form l = .ok x) :
    Calls Tryd.prog 19 #[.string (S l)] w fun e w' => ∃ v, e = .returned (.tuple #[v, .int .i64 0]) ∧ PRow w.heap.size w' v x ∧ Below w.heap.size w w' :=
  (form_any l w hd hl).mono fun e w' hp => by rw [h] at hp; exact hp
theorem form_error (l : List UInt8) (n : Nat) (w : World) (hd : Digs w) (hl : l.length ≤ 1073741824) (h : Pct.form l = .error n) :
    Calls Tryd.prog 19 #[.string (S l)] w fun e w' => e = .returned (.tuple #[.slice none 0 0, .int .i64 n]) ∧ Below w.heap.size w w' :=
  (form_any l w hd hl).mono fun e w' hp => by rw [h] at hp; exact hp
theorem normal_some (l x : List UInt8) (w : World) (hd : Digs w) (hl : l.length ≤ 1073741824) (h : Pct.norm l = some x) :
    Calls Tryd.prog 12 #[.string (S l)] w fun e w' => e = .returned (.tuple #[.string (S x), .int .i64 0]) ∧ Below w.heap.size w w' :=
  (normal_any (S l) w hd hl).mono fun e w' ⟨he, hb⟩ => ⟨by rw [he, S_toList, h]; rfl, hb⟩
theorem normal_none (l : List UInt8) (w : World) (hd : Digs w) (hl : l.length ≤ 1073741824) (h : Pct.norm l = none) :
    Calls Tryd.prog 12 #[.string (S l)] w fun e w' => e = .returned (.tuple #[.string ⟨#[]⟩, .int .i64 11]) ∧ Below w.heap.size w w' :=
  (normal_any (S l) w hd hl).mono fun e w' ⟨he, hb⟩ => ⟨by rw [he, S_toList, h]; rfl, hb⟩
theorem encode_to (l : List UInt8) (w : World) (hd : Digs w) (hl : l.length ≤ 1073741824) :
    Calls Tryd.prog 16 #[.string (S l)] w fun e w' => e = .returned (.string (S (Pct.enc l))) ∧ Below w.heap.size w w' :=
  encode_any (S l) w hd (by have : (S l).size = l.length := rfl; omega)

theorem S_list (l : List UInt8) : (S l).toList = l := by rw [Lib.toList_data]; rfl
theorem awake_form : Pct.form [120, 61, 49, 38, 38, 121] = .ok [([120], [49]), ([121], [])] := by kernel_rfl

def AwakePost (w : World) (e : Ending) (w' : World) : Prop := e = .returned (.bool true) ∧ Below w.heap.size w w'

theorem awake_v2 {w4 : World} {v : Value} {l : List Pct.PairL} (h : PReads w4 w4.heap.size v l) (o : Obj) : PReads (w4.alloc o) (w4.alloc o).heap.size v l :=
  (h.below ((Below.refl _ _).alloc (Nat.le_refl _) o)).more (by simp)
theorem awake_lit (w4 : World) : PReads (w4.alloc (.cells #[.string ⟨#[120]⟩, .string ⟨#[49]⟩, .string ⟨#[121]⟩, .string ⟨#[]⟩] 43)) (w4.alloc (.cells #[.string ⟨#[120]⟩, .string ⟨#[49]⟩, .string ⟨#[121]⟩, .string ⟨#[]⟩] 43)).heap.size (.slice (some ⟨w4.heap.size, 0, none⟩) 2 2) [([120], [49]), ([121], [])] := by
  refine ⟨_, 2, rfl, fun _ => ⟨w4.heap.size, 0, rfl, by simp, fun k hk => ?_⟩⟩
  have hc := fun i => cell_of_row _ w4.heap.size i _ _ _ (heap_alloc_new w4 (.cells #[.string ⟨#[120]⟩, .string ⟨#[49]⟩, .string ⟨#[121]⟩, .string ⟨#[]⟩] 43))
  match k, hk with
  | 0, _ => exact ⟨hc 0, hc 1⟩
  | 1, _ => exact ⟨hc 2, hc 3⟩

set_option maxHeartbeats 400000 in
theorem awake_any (w : World) (hd : Digs w) : Calls Tryd.prog 9 #[] w (AwakePost w) := by
  have h0 := hd.lt
  go_enter Tryd.func9, Tryd.ntmps9
  go_wp2_with fail
  refine (decode_some [97, 43, 98, 37, 52, 49] [97, 32, 98, 65] true w hd (by decide) (by decide +kernel)).mono ?_
  rintro e w1 ⟨rfl, hb1⟩
  go_wp2_with fail
  refine (form_ok [120, 61, 49, 38, 38, 121] [([120], [49]), ([121], [])] w1 (hd.below hb1 h0) (by decide) awake_form).mono ?_
  rintro e w2 ⟨v2, rfl, hr2, hb2⟩
  have hb2' : Below w.heap.size w w2 := hb1.trans (hb2.mono hb1.size)
  go_wp2_with fail
  refine (normal_some [37, 55, 101, 37, 50, 102] [126, 37, 50, 70] w2 (hd.below hb2' h0) (by decide) (by decide +kernel)).mono ?_
  rintro e w3 ⟨rfl, hb3⟩
  have hb3' : Below w.heap.size w w3 := hb2'.trans (hb3.mono hb2'.size)
  have hr3 : PReads w3 w3.heap.size v2 [([120], [49]), ([121], [])] := (hr2.reads.below hb3).more hb3.size
  clear hb3 hb2 hr2 hb1 hb2'
  go_wp2_with fail
  refine (encode_to [97, 32, 98, 47, 195, 169] w3 (hd.below hb3' h0) (by decide)).mono ?_
  rintro e w4 ⟨rfl, hb4⟩
  have hb4' : Below w.heap.size w w4 := hb3'.trans (hb4.mono hb3'.size)
  have hr4 : PReads w4 w4.heap.size v2 [([120], [49]), ([121], [])] := (hr3.below hb4).more hb4.size
  have henc : Pct.enc [97, 32, 98, 47, 195, 169] = [97, 37, 50, 48, 98, 37, 50, 70, 37, 67, 51, 37, 65, 57] := by decide +kernel
  rw [henc]
  clear henc hb4 hr3 hb3'
  have hS := S_list
  go_wp2_with fail
  refine (pairs_any v2 _ [([120], [49]), ([121], [])] [([120], [49]), ([121], [])] _ (awake_v2 hr4 _) (awake_lit w4) (by decide)).mono ?_
  rintro e w5 ⟨rfl, n, rfl⟩
  rw [show decide (([([120], [49]), ([121], [])] : List Pct.PairL) = [([120], [49]), ([121], [])]) = true by decide]
  go_wp2
  go_ret
  exact ⟨rfl, below_drewN (hb4'.alloc hb4'.size _) n⟩
end Go.Proofs.YtlibjaggbhmkkaaDoor
