/- The program's sort of pairs, where there are any: a sorted permutation. No condition. The program's sort of no pairs; what it must tell, whole. No condition. -/
import Derived.Test.YtfceljbmdcbciaaDoorMg44
import Derived.Test.YtfceljbmdcbciaaDoorKvSl
namespace Go.Proofs.YtfceljbmdcbciaaDoor
set_option maxRecDepth 8000
open Go.RowKit Go.Lib Go.Sort Go.Shelf

theorem encP_len (x : PairB) : (encP x).length = 2 := rfl
theorem encP_one (x : PairB) : ∀ v ∈ encP x, v.oneCell' = true := by
  intro v hv
  simp [encP] at hv
  rcases hv with rfl | rfl <;> rfl
theorem holds_of_row {base g c : Nat} {w : World} {l : List PairB} (h : PrRow base w (.slice (some ⟨g, 0, none⟩) l.length c) l) : HoldsK encP 2 w g 0 l.toArray := by
  intro j hj
  rw [size_flatK] at hj
  have hj' : j < l.length * 2 := by simpa using hj
  have hk : j / 2 < l.length := by omega
  have h1 := World.ownsRow.cellAt h j hj'
  have h2 := World.ownsRow.frozenAt h j
  rw [Nat.zero_add]
  refine ⟨?_, h2⟩
  rw [h1]
  obtain ⟨c1, c2⟩ := cells2_at l (j / 2) hk
  show _ = some (flatK encP 2 l.toArray)[j]!
  rw [get_flatK _ _ _ _ hj]
  have he : l.toArray[j / 2]! = l[j / 2] := by simp [hk]
  rw [he]
  rcases Nat.mod_two_eq_zero_or_one j with hm | hm
  · have : j / 2 * 2 = j := by omega
    rw [this] at c1
    rw [c1, hm]
    rfl
  · have : j / 2 * 2 + 1 = j := by omega
    rw [this] at c2
    rw [c2, hm]
    rfl
theorem cells_of_holds {g : Nat} {w : World} {d : Array PairB} (h : HoldsK encP 2 w g 0 d) (hg : g < w.heap.size) : PCells w w.heap.size (some ⟨g, 0, none⟩) d.toList := fun _ =>
  ⟨g, 0, rfl, hg, fun k hk => by
    have hk' : k < d.size := by simpa using hk
    have a1 := (h (k * 2) (by rw [size_flatK]; omega)).1
    have a2 := (h (k * 2 + 1) (by rw [size_flatK]; omega)).1
    have e1 : (flatK encP 2 d)[k * 2]! = .string (S d.toList[k].1) := by
      rw [get_flatK _ _ _ _ (by omega), show k * 2 / 2 = k by omega, show k * 2 % 2 = 0 by omega]
      simp [encP, hk']
    have e2 : (flatK encP 2 d)[k * 2 + 1]! = .string (S d.toList[k].2) := by
      rw [get_flatK _ _ _ _ (by omega), show (k * 2 + 1) / 2 = k by omega, show (k * 2 + 1) % 2 = 1 by omega]
      simp [encP, hk']
    rw [e1] at a1
    rw [e2] at a2
    exact ⟨a1, by rw [Nat.add_assoc]; exact a2⟩⟩
theorem below_sorted (w : World) {g base : Nat} (hb : base ≤ g) (hg : g < w.heap.size) (m : Nat) (dk : Array PairB) (os : Array Obj) : Below base w (sortWorldK encP 2 w g 0 m dk os) where
  os := rfl
  tape := rfl
  output := rfl
  size := size_sortWorldK_c (enc := encP) (k := 2) (w := w) (blk := g) (off := 0) m dk os
  block := fun i hi => by
    show ((w.heap.modify g _) ++ os)[i]? = w.heap[i]?
    have h1 : i < w.heap.size := by omega
    rw [Array.getElem?_append_left (by simpa using h1), Array.getElem?_modify, if_neg (by omega)]
theorem Tryd.aggPair : ∀ w, (isAgg 125).run Tryd.prog w = .ok true w := fun w => by kernel_rfl
theorem Tryd.sizePair : ∀ w, (Go.sizeOf 125).run Tryd.prog w = .ok 2 w := fun w => by kernel_rfl
theorem sort_some (w : World) (base : Nat) (v : Value) (l : List PairB) (h : PrRow base w v l) (hl : l.length ≤ 1048576) (h0 : 0 < l.length) :
    Calls Tryd.prog 84 #[v, .func (.func 85) #[] #[]] w fun e w' => e = .returned (.tuple #[]) ∧ ∃ l' : List PairB, l'.Perm l ∧ l'.Pairwise (fun a b => ¬ Kv.cmpB b.1 a.1 < 0) ∧ (∃ A c, v = .slice A l'.length c ∧ PCells w' w'.heap.size A l') ∧ Below base w w' := by
  obtain ⟨g, cap, rfl, hbg, hlt⟩ := World.ownsRow.form h h0
  have hH := holds_of_row h
  have eg : ∀ args w, (callFunc 85 args).run Tryd.prog w = .ok (.enter 85 args) w := enters_of Tryd.func85 (by kernel_rfl) rfl
  have hcmp : CmpLays Tryd.prog 85 #[] encP 2 (fun x y : PairB => Kv.cmpB x.1 y.1) g 0 l.toArray.size w := fun _ _ _ _ x y => kvClosure_any x y _
  have hcon := AnyQ.slices_SortFunc Tryd.sortPr 2 Tryd.aggPair Tryd.sizePair encP encP_len encP_one (fun x y => Kv.cmpB x.1 y.1) swo_pair 85 #[] g 0 cap l.toArray w eg hcmp hH hlt (by simp; omega)
  change Calls Tryd.prog 84 _ _ _ at hcon
  refine hcon.mono ?_
  rintro e w' ⟨he, d', m, os, hp, hs, rfl⟩
  obtain ⟨hz, _, hp⟩ := hp
  have hH' := holdsK_sortWorldK_c (enc := encP) (k := 2) (w := w) (blk := g) (off := 0) l.toArray d' m os hH hlt hz
  have hbs := below_sorted w hbg hlt m d' os
  have hzl : d'.size = l.length := by simpa using hz
  refine ⟨he, d'.toList, ?_, ?_, ⟨some ⟨g, 0, none⟩, cap, ?_, cells_of_holds hH' (Nat.lt_of_lt_of_le hlt hbs.size)⟩, hbs⟩
  · rw [← hz] at hp
    simp at hp
    rw [hz] at hp
    simpa using hp
  · rw [List.pairwise_iff_getElem]
    intro i j hi hj hij
    have h1 := hs i j (Nat.zero_le _) hij (by rw [← hz]; simpa using hj)
    rw [ltOf_pair, decide_eq_false_iff_not] at h1
    have hi' : i < d'.size := by simpa using hi
    have hj' : j < d'.size := by simpa using hj
    simpa [hi', hj'] using h1
  · simp [hzl]
end Go.Proofs.YtfceljbmdcbciaaDoor
namespace Go.Proofs.YtfceljbmdcbciaaDoor
set_option maxRecDepth 8000
open Go.RowKit

theorem len64_zero (w : World) : Calls Tryd.prog 130 #[.int .u64 0] w fun e w' => (∃ k : Int, e = .returned (.int .i64 k)) ∧ w = w' := by
  go_enter Tryd.func130, Tryd.ntmps130
  go_wp2_with fail
  go_ret
  exact ⟨⟨_, rfl⟩, rfl⟩
theorem len_zero (w : World) : Calls Tryd.prog 112 #[.int .u64 0] w fun e w' => (∃ k : Int, e = .returned (.int .i64 k)) ∧ w = w' := by
  have hL := len64_zero w
  go_enter Tryd.func112, Tryd.ntmps112
  go_wp2_with (go_at_call 130; refine hL.mono ?_; rintro e w1 ⟨⟨k, rfl⟩, rfl⟩)
  go_ret
  exact ⟨⟨_, rfl⟩, rfl⟩
theorem insertion_none (p : Option Addr) (cap : Nat) (f : Value) (w : World) : Calls Tryd.prog 121 #[.slice p 0 cap, .int .i64 0, .int .i64 0, f] w fun e w' => e = .returned (.tuple #[]) ∧ w = w' := by
  go_enter Tryd.func121, Tryd.ntmps121
  go_wp2_with fail
  refine wp_loop_rounds 1 ?_
  rw [rounds_succ]
  go_wp2_with fail
  refine bodyPost_end (results_none rfl _ _ _) rfl ?_
  exact ⟨rfl, rfl⟩
theorem pdq_none (p : Option Addr) (cap : Nat) (f : Value) (k : Int) (w : World) : Calls Tryd.prog 111 #[.slice p 0 cap, .int .i64 0, .int .i64 0, .int .i64 k, f] w fun e w' => e = .returned (.tuple #[]) ∧ w = w' := by
  have hI := insertion_none p cap f w
  go_enter Tryd.func111, Tryd.ntmps111
  go_wp2_with fail
  refine wp_loop_rounds 1 ?_
  rw [rounds_succ]
  go_wp2_with (go_at_call 121; refine hI.mono ?_; rintro e w1 ⟨rfl, rfl⟩)
  (try simp only [Exit.inBlock, Exit.then])
  refine bodyPost_ret (results_none rfl _ _ _) rfl ?_
  exact ⟨rfl, rfl⟩
theorem sort_none (p : Option Addr) (cap : Nat) (f : Value) (w : World) : Calls Tryd.prog 84 #[.slice p 0 cap, f] w fun e w' => e = .returned (.tuple #[]) ∧ w = w' := by
  have hL := len_zero w
  have hP := fun k => pdq_none p cap f k w
  go_enter Tryd.func84, Tryd.ntmps84
  go_wp2_with (first
    | (go_at_call 112; refine hL.mono ?_; rintro e w1 ⟨⟨k, rfl⟩, rfl⟩)
    | (go_at_call 111; refine (hP _).mono ?_; rintro e w1 ⟨rfl, rfl⟩))
  refine bodyPost_end (results_none rfl _ _ _) rfl ?_
  exact ⟨rfl, rfl⟩
theorem sortOk : SortOk := by
  intro w base v l h hb hl
  rcases Nat.eq_zero_or_pos l.length with h0 | h0
  · rcases h.2 with ⟨rfl, _⟩ | ⟨g, cap, cur, rfl, hbg, hg, _⟩
    · have hn : l = [] := List.eq_nil_of_length_eq_zero h0
      subst hn
      refine (sort_none none 0 _ w).mono ?_
      rintro e w' ⟨he, rfl⟩
      exact ⟨he, [], List.Perm.refl _, List.Pairwise.nil, ⟨none, 0, rfl, fun h => absurd h (Nat.lt_irrefl 0)⟩, Below.refl _ _⟩
    · have hn : l = [] := List.eq_nil_of_length_eq_zero h0
      subst hn
      refine (sort_none (some ⟨g, 0, none⟩) cap _ w).mono ?_
      rintro e w' ⟨he, rfl⟩
      exact ⟨he, [], List.Perm.refl _, List.Pairwise.nil, ⟨_, cap, rfl, fun h => absurd h (Nat.lt_irrefl 0)⟩, Below.refl _ _⟩
  · exact sort_some w base v l h hl h0
end Go.Proofs.YtfceljbmdcbciaaDoor
