/- What the statements' examples of package ticket answer: true. -/
import Derived.Test.YtihfpockmginfaaDoorTkF
namespace Go.Proofs.YtihfpockmginfaaDoor
set_option maxRecDepth 8000
open Go.RowKit

/-- A slice of texts of the call's own, as one that is read. -/
theorem SRow.reads {base : Nat} {w : World} {v : Value} {l : List (List UInt8)} (h : SRow base w v l) : ∃ A cap, v = .slice A l.length cap ∧ SCells w w.heap.size A l := by
  rcases h.2 with ⟨rfl, hn⟩ | ⟨g, cap, cur, hv, hbase, hg, hr⟩
  · exact ⟨none, 0, by rw [hn], fun h0 => absurd h0 (by omega)⟩
  · refine ⟨_, cap, hv, fun _ => ⟨g, 0, rfl, lt_of_blk hg, fun k hk => ?_⟩⟩
    subst hv
    have := World.ownsRow.cells h (g := g) rfl k (.string (S l[k])) (by simp [strsV, hk])
    rw [Addr.add_mid] at this
    exact this
theorem texts_one {w : World} {base : Nat} {v : Value} {l : List (List UInt8)} (h : SRow base w v l) (hl : l.length ≤ 1099511627776) (x : List UInt8) :
    Calls Tryd.prog 16 #[v, .slice (some ⟨w.heap.size, 0, none⟩) 1 1] (w.alloc (.cells #[.string (S x)] 9)) fun e w' => e = .returned (.bool (decide (l = [x]))) ∧ Below w.heap.size w w' := by
  have hb : Below w.heap.size w (w.alloc (.cells #[.string (S x)] 9)) := (Below.refl _ _).alloc (Nat.le_refl _) _
  obtain ⟨A, cap, rfl, hc⟩ := SRow.reads (show SRow base _ v l from own_below h hb)
  refine (texts_any A (some ⟨w.heap.size, 0, none⟩) cap 1 l [x] _ hc (fun _ => ⟨w.heap.size, 0, rfl, by simp, fun k hk => ?_⟩) hl).mono fun e w' ⟨he, n, hw⟩ => ⟨he, ?_⟩
  · have : k = 0 := by simpa using hk
    subst this
    exact cell_of_row _ _ _ _ _ _ (heap_alloc_new w _)
  · rw [hw]
    exact below_drewN hb n
theorem ex_name : nameV 2 255 = .tuple #[.string ⟨#[83, 84, 45, 48, 48, 48, 48, 48, 48, 48, 48, 48, 48, 48, 48, 48, 48, 102, 102]⟩, .int .i64 0] := by rfl
theorem ex_parse : tellV [80, 71, 84, 45, 48, 48, 48, 48, 48, 48, 48, 48, 48, 48, 48, 48, 48, 48, 48, 49] = .tuple #[.int .i64 4, .int .u64 1, .bool true] :=
  tellV_name (k := 4) (n := 1) ⟨by omega, by omega, by omega, by rfl⟩
theorem ex_find : Tk.find [120, 61, 80, 71, 84, 73, 79, 85, 45, 48, 48, 48, 48, 48, 48, 48, 48, 48, 48, 48, 48, 48, 48, 48, 49, 38, 83, 84, 45, 49] = [[80, 71, 84, 73, 79, 85, 45, 48, 48, 48, 48, 48, 48, 48, 48, 48, 48, 48, 48, 48, 48, 48, 49]] := by decide +kernel
def exS : List UInt8 := [80, 71, 84, 45, 48, 48, 48, 48, 48, 48, 48, 48, 48, 48, 48, 48, 48, 48, 48, 49]
def exF : List UInt8 := [120, 61, 80, 71, 84, 73, 79, 85, 45, 48, 48, 48, 48, 48, 48, 48, 48, 48, 48, 48, 48, 48, 48, 48, 49, 38, 83, 84, 45, 49]
def exO : List UInt8 := [80, 71, 84, 73, 79, 85, 45, 48, 48, 48, 48, 48, 48, 48, 48, 48, 48, 48, 48, 48, 48, 48, 49]
set_option maxHeartbeats 1600000 in
theorem awake_any (w : World) (hE : EnvT w) :
    Calls Tryd.prog 8 #[] w (AwakePost w) := by
  have h1 := name_any 2 255 (by omega) w hE
  rw [ex_name] at h1
  have h2 := fun w' h => parse_any exS (by decide) w' h
  have e2 : tellV exS = .tuple #[.int .i64 4, .int .u64 1, .bool true] := ex_parse
  rw [e2] at h2
  have h3 := fun w' h => find_any exF (by decide) w' h
  have e3 : Tk.find exF = [exO] := ex_find
  rw [e3] at h3
  have hd : decide ([exO] = [exO]) = true := by simp
  go_enter Tryd.func8, Tryd.ntmps8
  rw [show (⟨#[80, 71, 84, 45, 48, 48, 48, 48, 48, 48, 48, 48, 48, 48, 48, 48, 48, 48, 48, 49]⟩ : ByteArray) = S exS from rfl,
    show (⟨#[120, 61, 80, 71, 84, 73, 79, 85, 45, 48, 48, 48, 48, 48, 48, 48, 48, 48, 48, 48, 48, 48, 48, 48, 49, 38, 83, 84, 45, 49]⟩ : ByteArray) = S exF from rfl,
    show (⟨#[80, 71, 84, 73, 79, 85, 45, 48, 48, 48, 48, 48, 48, 48, 48, 48, 48, 48, 48, 48, 48, 48, 49]⟩ : ByteArray) = S exO from rfl]
  go_wp2_with (first
    | (go_at_call 9; refine h1.mono ?_; rintro e w1 ⟨rfl, hb1⟩; have hE1 := hE.next hb1)
    | (go_at_call 11; refine (h2 _ hE1).mono ?_; rintro e w2 ⟨rfl, hb2⟩; have hE2 := hE1.next hb2)
    | (go_at_call 17; refine (h3 _ hE2).mono ?_; rintro e w3 ⟨v, rfl, hr, hb3⟩)
    | (go_at_call 16; refine (texts_one hr (by decide) exO).mono ?_; rintro e w4 ⟨rfl, hb4⟩))
  go_ret
  have q1 := hb1
  have q2 := q1.trans (hb2.mono q1.size)
  have q3 := q2.trans (hb3.mono q2.size)
  exact ⟨rfl, q3.trans (hb4.mono q3.size)⟩
end Go.Proofs.YtihfpockmginfaaDoor
