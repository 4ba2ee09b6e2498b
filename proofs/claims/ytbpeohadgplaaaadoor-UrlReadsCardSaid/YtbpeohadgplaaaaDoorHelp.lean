/- Contracts of package pct, by cases of the plain functions' answers, where the table of digits reads as its text lays it. -/
import Derived.Test.YtbpeohadgplaaaaDoorWalkG
namespace Go.Proofs.YtbpeohadgplaaaaDoor
set_option maxRecDepth 8000
open Go.RowKit

theorem form_ok (l : List UInt8) (x : List Pct.PairL) (w : World) (hd : Digs w) (hl : l.length ≤ 1073741824) (h : Pct.form l = .ok x) :
    Calls Tryd.prog 63 #[.string (S l)] w fun e w' => ∃ v, e = .returned (.tuple #[v, .int .i64 0]) ∧ PRow w.heap.size w' v x ∧ Below w.heap.size w w' :=
  (form_any l w hd hl).mono fun e w' hp => by rw [h] at hp; exact hp
theorem form_error (l : List UInt8) (n : Nat) (w : World) (hd : Digs w) (hl : l.length ≤ 1073741824) (h : Pct.form l = .error n) :
    Calls Tryd.prog 63 #[.string (S l)] w fun e w' => e = .returned (.tuple #[.slice none 0 0, .int .i64 n]) ∧ Below w.heap.size w w' :=
  (form_any l w hd hl).mono fun e w' hp => by rw [h] at hp; exact hp
theorem normal_some (l x : List UInt8) (w : World) (hd : Digs w) (hl : l.length ≤ 1073741824) (h : Pct.norm l = some x) :
    Calls Tryd.prog 77 #[.string (S l)] w fun e w' => e = .returned (.tuple #[.string (S x), .int .i64 0]) ∧ Below w.heap.size w w' :=
  (normal_any (S l) w hd hl).mono fun e w' ⟨he, hb⟩ => ⟨by rw [he, S_toList, h]; rfl, hb⟩
theorem normal_none (l : List UInt8) (w : World) (hd : Digs w) (hl : l.length ≤ 1073741824) (h : Pct.norm l = none) :
    Calls Tryd.prog 77 #[.string (S l)] w fun e w' => e = .returned (.tuple #[.string ⟨#[]⟩, .int .i64 11]) ∧ Below w.heap.size w w' :=
  (normal_any (S l) w hd hl).mono fun e w' ⟨he, hb⟩ => ⟨by rw [he, S_toList, h]; rfl, hb⟩

theorem S_list (l : List UInt8) : (S l).toList = l := by rw [Lib.toList_data]; rfl
def AwakePost (w : World) (e : Ending) (w' : World) : Prop := e = .returned (.bool true) ∧ Below w.heap.size w w'
end Go.Proofs.YtbpeohadgplaaaaDoor
