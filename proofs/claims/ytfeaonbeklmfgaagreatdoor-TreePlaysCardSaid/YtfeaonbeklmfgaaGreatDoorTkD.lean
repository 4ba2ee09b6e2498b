/- What package ticket's Prefix, Name and ending answer, for any kind and draw, and any text of at most 2^30 bytes, where the tables that they read hold what their texts lay there. -/
import Derived.Test.YtfeaonbeklmfgaaGreatDoorTkC
namespace Go.Proofs.YtfeaonbeklmfgaaGreatDoor
set_option maxRecDepth 8000
open Go.RowKit

def preCells : List Value := [.string (S (Tk.pre 0)), .string (S (Tk.pre 1)), .string (S (Tk.pre 2)), .string (S (Tk.pre 3)), .string (S (Tk.pre 4)), .string (S (Tk.pre 5)), .string (S (Tk.pre 6))]
/-- What the calls read of package-level variables. -/
structure EnvT (w : World) : Prop where
  tz : Tz w
  errs : Errs w
  pre : w.rangeAt 1 0 preCells
  ltz : 6 < w.heap.size
  ltp : 1 < w.heap.size
theorem EnvT.below {B : Nat} {w w' : World} (h : EnvT w) (hb : Below B w w') (h1 : 6 < B) (h2 : 1 < B) (h3 : 2 < B) (h4 : 3 < B) : EnvT w' := by
  have hs := hb.size
  have hz := h.ltz
  have hp := h.ltp
  refine ⟨?_, h.errs.below hb h3 h4, fun j v hj => ?_, by omega, by omega⟩
  · exact (hb.cell (p := ⟨6, 15, none⟩) h1).trans h.tz
  · exact (hb.cell (p := ⟨1, 0 + j, none⟩) h2).trans (h.pre j v hj)
theorem EnvT.next {w w' : World} (h : EnvT w) (hb : Below w.heap.size w w') : EnvT w' := h.below hb h.ltz h.ltp h.errs.lts h.errs.ltr
theorem pre_at (k : Nat) (hk : k < 7) : preCells[k]? = some (.string (S (Tk.pre k))) := by
  have : k = 0 ∨ k = 1 ∨ k = 2 ∨ k = 3 ∨ k = 4 ∨ k = 5 ∨ k = 6 := by omega
  rcases this with rfl | rfl | rfl | rfl | rfl | rfl | rfl <;> rfl
theorem EnvT.cell {w : World} (h : EnvT w) (k : Nat) (hk : k < 7) : w.cell? ⟨1, k, none⟩ = some (.string (S (Tk.pre k))) := by
  have := h.pre k _ (pre_at k hk)
  rwa [Nat.zero_add] at this
theorem run_pre_index (w : World) (k : Nat) (hk : k < 7) : (Instr.index 137 (.agg preCells.toArray) (.int .i64 (k : Int))).run Tryz.prog w = .ok (.string (S (Tk.pre k))) w := by
  have hx := pre_at k hk
  simp [Instr.index, run_underlying Tryz.underlying137, asIntOf, hk, hx, go_sem]

/-- A kind's prefix. -/
def preI (kind : Int) : List UInt8 := if 0 ≤ kind then Tk.pre kind.toNat else []
theorem pre_none (k : Nat) (h : 7 ≤ k) : Tk.pre k = [] := by
  unfold Tk.pre
  split <;> first | omega | rfl
set_option maxHeartbeats 400000 in
theorem prefix_any (kind : Int) (w : World) (hE : EnvT w) :
    Calls Tryz.prog 105 #[.int .i64 kind] w fun e w' => e = .returned (.string (S (preI kind))) ∧ w' = w := by
  by_cases h0 : 0 ≤ kind
  · obtain ⟨k, rfl⟩ : ∃ k : Nat, kind = k := ⟨kind.toNat, by omega⟩
    have e : preI (k : Int) = Tk.pre k := by unfold preI; rw [if_pos h0]; rfl
    rw [e]
    clear e
    by_cases h7 : k < 7
    · have hc := hE.cell k h7
      generalize S (Tk.pre k) = X at hc ⊢
      go_enter Tryz.func105, Tryz.ntmps105
      go_wp2
      go_ret
      exact ⟨rfl, rfl⟩
    · have hp := Lib.hid (pre_none k (by omega))
      go_enter Tryz.func105, Tryz.ntmps105
      go_wp2
      go_ret
      rw [hp.out]
      exact ⟨rfl, rfl⟩
  · have hp : Hid (preI kind = []) := Lib.hid (by unfold preI; rw [if_neg h0])
    go_enter Tryz.func105, Tryz.ntmps105
    go_wp2
    go_ret
    rw [hp.out]
    exact ⟨rfl, rfl⟩

/-- A name, and that there is one. -/
def nameV (kind : Int) (n : Nat) : Value := if (preI kind).isEmpty then .tuple #[.string ⟨#[]⟩, .int .i64 8] else .tuple #[.string (S (preI kind ++ 45 :: Tk.num n)), .int .i64 0]
theorem zeros_eq : ∀ z : Nat, Lib.repeatL [48] z = List.replicate z 48
  | 0 => rfl
  | z + 1 => by rw [Lib.repeatL, zeros_eq z]; rfl
theorem preI_len (kind : Int) : (preI kind).length ≤ 6 := by
  unfold preI
  split
  · rcases Nat.lt_or_ge kind.toNat 7 with h | h
    · rcases Nat.eq_zero_or_pos kind.toNat with h0 | h0
      · rw [h0]; simp [Tk.pre]
      · exact ((Tk.pre_facts _ h).2 h0).2
    · rw [pre_none _ h]; simp
  · simp
set_option maxHeartbeats 800000 in
theorem name_any (kind : Int) (n : Nat) (hn : n < 18446744073709551616) (w : World) (hE : EnvT w) :
    Calls Tryz.prog 99 #[.int .i64 kind, .int .u64 n] w fun e w' => e = .returned (nameV kind n) ∧ Below w.heap.size w w' := by
  have hP := prefix_any kind w hE
  have hlen := preI_len kind
  unfold nameV
  obtain ⟨p, hp⟩ : ∃ p, p = preI kind := ⟨_, rfl⟩
  rw [← hp] at hP hlen ⊢
  clear hp
  have hS := S_empty p
  cases he : p.isEmpty with
  | true =>
    rw [he] at hS
    go_enter Tryz.func99, Tryz.ntmps99
    go_wp2_with (go_at_call 105; refine hP.mono ?_; rintro e w' ⟨rfl, rfl⟩)
    go_ret2
    exact ⟨rfl, Below.refl _ _⟩
  | false =>
    rw [he] at hS
    have hF := format_any n hn w hE.tz hE.ltz
    have hl := Tk.hexs_len16 hn
    have hnum := Tk.num_hexs hn
    obtain ⟨x, hx⟩ : ∃ x, x = Tk.hexs n := ⟨_, rfl⟩
    rw [← hx] at hF hl hnum
    clear hx
    obtain ⟨z, hz⟩ : ∃ z, z = 16 - x.length := ⟨_, rfl⟩
    rw [← hz] at hnum
    have hsx : (16 : Int) - ((S x).size : Int) = (z : Int) := by show (16 : Int) - (x.length : Int) = _; omega
    have hR : ∀ w, Calls Tryz.prog 107 #[.string ⟨#[48]⟩, .int .i64 (z : Int)] w fun e w' => e = .returned (.string (S (List.replicate z 48))) ∧ Below w.heap.size w w' := fun w => by
      refine (Tryz.strings_Repeat ⟨#[48]⟩ z w (by omega) (by show 1 * z ≤ _; omega)).mono fun e w' ⟨h1, h2⟩ => ⟨?_, h2⟩
      rw [h1, ← zeros_eq]
      rfl
    have a1 : ∀ w, (Op.stringOp .add (S p) ⟨#[45]⟩).run Tryz.prog w = .ok (.string (S (p ++ [45]))) w := fun w => run_add_S w p [45] (by simp; omega)
    obtain ⟨y, hy⟩ : ∃ y, y = p ++ [45] := ⟨_, rfl⟩
    have hyl : y.length ≤ 7 := by rw [hy]; simp; omega
    rw [← hy] at a1
    obtain ⟨zs, hzs⟩ : ∃ zs : List UInt8, zs = List.replicate z 48 := ⟨_, rfl⟩
    have hzl : zs.length = z := by rw [hzs]; simp
    rw [← hzs] at hnum hR
    have a2 : ∀ w, (Op.stringOp .add (S y) (S zs)).run Tryz.prog w = .ok (.string (S (y ++ zs))) w := fun w => run_add_S w y zs (by omega)
    obtain ⟨u, hu⟩ : ∃ u, u = y ++ zs := ⟨_, rfl⟩
    have hul : u.length ≤ 30 := by rw [hu]; simp; omega
    rw [← hu] at a2
    have a3 : ∀ w, (Op.stringOp .add (S u) (S x)).run Tryz.prog w = .ok (.string (S (u ++ x))) w := fun w => run_add_S w u x (by omega)
    have hfin : Hid (u ++ x = p ++ 45 :: Tk.num n) := Lib.hid (by rw [hu, hy, ← hnum]; simp)
    generalize u ++ x = t at a3 hfin
    clear hu hy hzs hnum hzl hz
    go_enter Tryz.func99, Tryz.ntmps99
    go_wp2_with (first
      | (go_at_call 105; refine hP.mono ?_; rintro e w' ⟨rfl, rfl⟩)
      | (go_at_call 106; refine hF.mono ?_; rintro e w1 ⟨rfl, hb1⟩)
      | (go_at_call 107; refine (hR _).mono ?_; rintro e w2 ⟨rfl, hb2⟩))
    go_ret2
    rw [hfin.out]
    exact ⟨rfl, hb1.trans (hb2.mono hb1.size)⟩

theorem ending_hit {k : Nat} {h : List UInt8} (h1 : 1 ≤ k) (h6 : k ≤ 6) (hn : ∀ j, 1 ≤ j → j < k → (Tk.pre j).isSuffixOf h = false) (hk : (Tk.pre k).isSuffixOf h = true) : Tk.ending h = k := by
  have : k = 1 ∨ k = 2 ∨ k = 3 ∨ k = 4 ∨ k = 5 ∨ k = 6 := by omega
  unfold Tk.ending
  rcases this with rfl | rfl | rfl | rfl | rfl | rfl
  · simp [hk]
  · simp [hk, hn 1 (by omega) (by omega)]
  · simp [hk, hn 1 (by omega) (by omega), hn 2 (by omega) (by omega)]
  · simp [hk, hn 1 (by omega) (by omega), hn 2 (by omega) (by omega), hn 3 (by omega) (by omega)]
  · simp [hk, hn 1 (by omega) (by omega), hn 2 (by omega) (by omega), hn 3 (by omega) (by omega), hn 4 (by omega) (by omega)]
  · simp [hk, hn 1 (by omega) (by omega), hn 2 (by omega) (by omega), hn 3 (by omega) (by omega), hn 4 (by omega) (by omega), hn 5 (by omega) (by omega)]
theorem ending_miss {h : List UInt8} (hn : ∀ j, 1 ≤ j → j < 7 → (Tk.pre j).isSuffixOf h = false) : Tk.ending h = 0 := by
  unfold Tk.ending
  simp [hn 1 (by omega) (by omega), hn 2 (by omega) (by omega), hn 3 (by omega) (by omega), hn 4 (by omega) (by omega), hn 5 (by omega) (by omega), hn 6 (by omega) (by omega)]
set_option maxHeartbeats 400000 in
theorem ending_any (h : List UInt8) (hl : h.length ≤ 1099511627776) (w : World) (hE : EnvT w) :
    Calls Tryz.prog 97 #[.string (S h)] w fun e w' => e = .returned (.int .i64 (Tk.ending h : Int)) ∧ w' = w := by
  have hd := hE.pre
  clear hE
  have hsz : (S h).size ≤ 9223372036854775807 := by show h.length ≤ _; omega
  go_enter Tryz.func97, Tryz.ntmps97
  go_wp2_with (refine wpList_load_mid rfl 137 (.global 1) rfl 1 0 rfl preCells (.array 7 9) hd Tryz.underlying137 rfl (by kernel_rfl) ?_)
  clear hd
  go_loop [6] (fun i => ∃ k : Nat, k ≤ 7 ∧ i = .int .i64 k ∧ ∀ j : Nat, 1 ≤ j → j < k → (Tk.pre j).isSuffixOf h = false) (fun i => 7 - (intOf i).toNat)
  case atStart => exact ⟨0, Nat.zero_le _, rfl, fun j h1 hj => absurd hj (by omega)⟩
  case round =>
    obtain ⟨k, hk, rfl, hn⟩ := hrel
    have HN := Lib.hid hn
    clear hn
    by_cases hlt : k < 7
    · have hx := run_pre_index (k := k) (hk := hlt)
      have hsf := fun w => Tryz.strings_HasSuffix (S h) (S (Tk.pre k)) w hsz
      have hq : Lib.hasSuffix (S h).data.toList (S (Tk.pre k)).data.toList = (Tk.pre k).isSuffixOf h := rfl
      have hS := S_empty (Tk.pre k)
      by_cases h0 : k = 0
      · have he : (Tk.pre k).isEmpty = true := by rw [h0]; rfl
        rw [he] at hS
        generalize S (Tk.pre k) = X at hx hS hsf hq
        have H0 := Lib.hid h0
        clear h0
        go_wp2
        go_round
        case rel => exact ⟨k + 1, by omega, by go_num, fun j h1 hj => absurd hj (by have := H0.out; omega)⟩
        case measure => simp [intOf]; omega
      · have he : (Tk.pre k).isEmpty = false := by
          have := ((Tk.pre_facts k hlt).2 (by omega)).1
          cases hp : Tk.pre k with
          | nil => rw [hp] at this; simp at this
          | cons _ _ => rfl
        rw [he] at hS
        have HQ := Lib.hid hq
        generalize S (Tk.pre k) = X at hx hS hsf HQ
        generalize Lib.hasSuffix (S h).data.toList X.data.toList = b at hsf HQ
        have H0 := Lib.hid h0
        clear h0 hq he
        cases b with
        | true =>
          have hf := Lib.hid (ending_hit (h := h) (k := k) (by have := H0.out; omega) (by omega) HN.out HQ.out.symm)
          go_wp2_with (go_at_call 102; refine (hsf _).mono ?_; rintro e w' ⟨rfl, rfl⟩)
          go_ret
          rw [hf.out]
          exact ⟨rfl, rfl⟩
        | false =>
          go_wp2_with (go_at_call 102; refine (hsf _).mono ?_; rintro e w' ⟨rfl, rfl⟩)
          go_round
          case rel =>
            refine ⟨k + 1, by omega, by go_num, fun j h1 hj => ?_⟩
            by_cases hjk : j = k
            · subst hjk; exact HQ.out.symm
            · exact HN.out j h1 (by omega)
          case measure => simp [intOf]; omega
    · have hf := Lib.hid (ending_miss (h := h) (fun j h1 hj => HN.out j h1 (by omega)))
      go_wp2
      go_ret
      rw [hf.out]
      exact ⟨rfl, rfl⟩
end Go.Proofs.YtfeaonbeklmfgaaGreatDoor
