/- What the document's Find of package ticket answers, for any text of at most 2^30 bytes. -/
import Derived.Test.YtihfpockmginfaaDoorTkI
namespace Go.Proofs.YtihfpockmginfaaDoor
set_option maxRecDepth 8000
open Go.RowKit

/-- Where the name ends that a text begins with; 0, if it begins with none. -/
def headLen (u : List UInt8) : Nat := ((Tk.headName u).map List.length).getD 0
theorem headLen_le (u : List UInt8) : headLen u ≤ u.length ∧ (headLen u = 0 ∨ (18 ≤ headLen u ∧ headLen u ≤ 23)) := by
  unfold headLen
  cases h : Tk.headName u with
  | none => exact ⟨Nat.zero_le _, .inl rfl⟩
  | some x =>
    obtain ⟨k, n, hn, e⟩ := Tk.headName_is h
    have := name_length hn.lo hn.hi n
    rw [← hn.eq] at this
    have hl : u.length = x.length + (u.drop x.length).length := by conv => lhs; rw [e]; rw [List.length_append]
    refine ⟨?_, .inr ⟨?_, ?_⟩⟩
    · show x.length ≤ u.length
      omega
    · show 18 ≤ x.length
      omega
    · show x.length ≤ 23
      omega
theorem tell_take (u : List UInt8) (n : Nat) (hn : n ≤ u.length) (h0 : 1 ≤ n) : (Tk.tell (u.take n)).2.2 = decide (headLen u = n) := by
  rcases Tk.tell_cases (u.take n) with ⟨k, m, h, e⟩ | ⟨h, e⟩
  · rw [e]
    have h1 := Tk.headName_of h
    have h2 : headLen u = n := by
      unfold headLen
      rw [h1.1]
      show (Tk.name k m).length = n
      rw [← h1.2, List.length_take]
      omega
    rw [decide_eq_true h2]
  · rw [e]
    symm
    rw [decide_eq_false_iff_not]
    intro h2
    unfold headLen at h2
    cases hh : Tk.headName u with
    | none => rw [hh] at h2; simp at h2; omega
    | some x =>
      obtain ⟨k, m, hm, e2⟩ := Tk.headName_is hh
      rw [hh] at h2
      have h3 : x.length = n := h2
      apply h k m
      rw [e2, ← h3, List.take_left' rfl]
      exact hm
/-- What is found of a text: the name that it begins with, and what is found behind it. -/
theorem find_step (u : List UInt8) (h : u ≠ []) : Tk.find u = (if headLen u = 0 then [] else [u.take (headLen u)]) ++ Tk.find (u.drop (max 1 (headLen u))) := by
  have hle := headLen_le u
  unfold headLen at hle ⊢
  cases hh : Tk.headName u with
  | none =>
    cases u with
    | nil => exact absurd rfl h
    | cons c r =>
      rw [Tk.find, hh]
      rfl
  | some x =>
    rw [hh] at hle
    have h2 : 18 ≤ x.length ∧ x.length ≤ 23 := by
      rcases hle.2 with h0 | h0
      · obtain ⟨k, n, hn, e⟩ := Tk.headName_is hh
        have := name_length hn.lo hn.hi n
        rw [← hn.eq] at this
        have h0' : x.length = 0 := h0
        omega
      · exact h0
    have e1 : ((some x).map List.length).getD 0 = x.length := rfl
    obtain ⟨k, n, hn, e⟩ := Tk.headName_is hh
    have e2 : u.take x.length = x := by conv => lhs; rw [e]; rw [List.take_left' rfl]
    rw [e1, if_neg (by omega), e2, show max 1 x.length = x.length by omega, Tk.find_skip hh]
    rfl

set_option maxHeartbeats 1600000 in
theorem refFind_any (s : List UInt8) (hl : s.length ≤ 1073741824) (w : World) :
    Calls Tryd.prog 18 #[.string (S s)] w fun e w' => ∃ v, e = .returned v ∧ SRow w.heap.size w' v (Tk.find s) ∧ Below w.heap.size w w' := by
  have hsz : (S s).size = s.length := rfl
  obtain ⟨i0, hi0, hz0, hz1, hz2⟩ := info_parts Tryd.infoString
  have hnil : SRow w.heap.size w (.slice none 0 0) [] := World.ownsRow_nil _ _ _ _
  go_enter Tryd.func18, Tryd.ntmps18
  go_upto_region 3 with fail
  go_loopw [3, 4] (fun v va wr => ∃ (acc : List (List UInt8)) (a : Nat), va = .int .i64 a ∧ a ≤ s.length ∧ SRow w.heap.size wr v acc ∧ Below w.heap.size w wr ∧ Hid (Tk.find s = acc ++ Tk.find (s.drop a))) (fun _ va _ => s.length - (intOf va).toNat)
  case atStart => exact ⟨[], 0, rfl, by omega, hnil, Below.refl _ _, Lib.hid (by simp)⟩
  case round =>
    obtain ⟨acc, a, rfl, ha, hrow, hb, hfd⟩ := hrel
    by_cases hlt : a < s.length
    · obtain ⟨u, hu⟩ : ∃ u, u = s.drop a := ⟨_, rfl⟩
      have hul : u.length = s.length - a := by rw [hu, List.length_drop]
      have hune : u ≠ [] := fun h => by rw [h] at hul; simp at hul; omega
      have hstep := find_step u hune
      have hle := headLen_le u
      obtain ⟨fl, hfl⟩ : ∃ fl, fl = headLen u := ⟨_, rfl⟩
      have htk := fun n h h0 => tell_take u n h h0
      rw [← hfl] at hstep hle htk
      have hcut : ∀ n, (S s).extract a (a + n) = S (u.take n) := fun n => by
        rw [extract_piece, S_toList, ← hu, show a + n - a = n by omega]
      have hdr : ∀ n, s.drop (a + n) = u.drop n := fun n => by rw [hu, List.drop_drop]
      have HCUT := Lib.hid hcut
      have HTK := Lib.hid htk
      clear hcut htk
      have HST := Lib.hid hstep
      have HDR := Lib.hid hdr
      have HFL := Lib.hid hfl
      have HU := Lib.hid hu
      clear hstep hdr hfl hu
      have hfd2 : Hid (Tk.find s = acc ++ Tk.find u) := Lib.hid (by rw [hfd.out, HU.out])
      have hlen2 : (Tk.find s).length ≤ s.length := Tk.find_len s
      have hacc : acc.length ≤ s.length := by rw [hfd2.out, List.length_append] at hlen2; omega
      go_upto_region 6 with fail
      go_loop [5, 6] (fun vf vn => ∃ (n f : Nat), vf = .int .i64 f ∧ vn = .int .i64 n ∧ 18 ≤ n ∧ n ≤ 24 ∧ Hid (f = if fl < n then fl else 0)) (fun _ vn => 24 - (intOf vn).toNat)
      case atStart => exact ⟨18, 0, rfl, rfl, by omega, by omega, Lib.hid (by split <;> omega)⟩
      case round =>
        obtain ⟨n, f, rfl, rfl, hn0, hn1, hf⟩ := hrel
        have hw0 : IntKind.i64.wrap ((a : Int) + (n : Int)) = (a : Int) + (n : Int) := by rw [IntKind.wrap_i64]; omega
        by_cases hin : n ≤ 23 ∧ n ≤ u.length
        · have hx := HCUT.out n
          have hP := fun w' => refParse_any (u.take n) (by rw [List.length_take]; omega) w'
          unfold tellV at hP
          have ht := HTK.out n hin.2 (by omega)
          have HT := Lib.hid ht
          generalize (Tk.tell (u.take n)).1 = tk at hP
          generalize (Tk.tell (u.take n)).2.1 = tn at hP
          generalize (Tk.tell (u.take n)).2.2 = tb at hP HT
          generalize u.take n = y at hx hP
          have g1 : (n : Int) ≤ 23 := by omega
          have g2 : (a : Int) + (n : Int) ≤ (s.length : Int) := by omega
          clear ht
          cases tb with
          | true =>
            have hnew : Hid (n = if fl < n + 1 then fl else 0) := Lib.hid (by
              have := of_decide_eq_true HT.out.symm
              rw [if_pos (by omega)]
              omega)
            go_wp2_with (go_at_call 12; refine (hP _).mono ?_; rintro e w' ⟨rfl, rfl⟩)
            go_round
            case rel => exact ⟨n + 1, n, rfl, by go_num, by omega, by omega, hnew⟩
            case measure => simp [intOf]; omega
          | false =>
            have hnew : Hid (f = if fl < n + 1 then fl else 0) := Lib.hid (by
              have h1 := of_decide_eq_false HT.out.symm
              have h2 := hf.out
              rw [h2]
              split <;> split <;> omega)
            go_wp2_with (go_at_call 12; refine (hP _).mono ?_; rintro e w' ⟨rfl, rfl⟩)
            go_round
            case rel => exact ⟨n + 1, f, rfl, by go_num, by omega, by omega, hnew⟩
            case measure => simp [intOf]; omega
        · have hfin : f = fl := by
            have h1 := hf.out
            rcases hle.2 with h2 | h2
            · rw [h2] at h1 ⊢
              simpa using h1
            · rw [h1, if_pos (by omega)]
          subst hfin
          have hstop : ¬ (n ≤ 23) ∨ ¬ (a + n ≤ s.length) := by omega
          clear hf
          have hfm : ∀ w, (Builtin.max_ #[3, 3] 3 #[.int .i64 1, .int .i64 (f : Int)]).run Tryd.prog w = .ok (.int .i64 ((max 1 f : Nat) : Int)) w := fun w => by
            rw [run_max_int2]
            have : (if (1 : Int) < (f : Int) then (f : Int) else 1) = ((max 1 f : Nat) : Int) := by split <;> omega
            first | rw [this] | (congr 2; split <;> omega)
          have hmx : Hid (a + max 1 f ≤ s.length ∧ 1 ≤ max 1 f ∧ (18 ≤ f → max 1 f = f)) := Lib.hid ⟨by omega, by omega, by omega⟩
          obtain ⟨mx, hmxe⟩ : ∃ mx, mx = max 1 f := ⟨_, rfl⟩
          rw [← hmxe] at hfm hmx
          have HME := Lib.hid hmxe
          clear hmxe
          have hmb : a + mx ≤ s.length := hmx.out.1
          have hw1 : IntKind.i64.wrap ((a : Int) + (mx : Int)) = (a : Int) + (mx : Int) := by rw [IntKind.wrap_i64]; omega
          have hw2 : IntKind.i64.wrap ((a : Int) + (f : Int)) = (a : Int) + (f : Int) := by rw [IntKind.wrap_i64]; omega
          have hbs := hb.size
          have h63 : acc.length + 1 ≤ maxLen := by unfold maxLen; omega
          have hown : wr.ownsRow w.heap.size 9 1 u3 acc.length (strsV acc) := hrow
          rcases hle.2 with h0 | h0
          · have hnew : Hid (Tk.find s = acc ++ Tk.find (s.drop (a + mx))) := Lib.hid (by rw [hfd2.out, HST.out, if_pos h0, ← HME.out, HDR.out]; rfl)
            have hpos : ¬ (0 < (f : Int)) := by omega
            clear hle h0
            go_upto_region 11 with fail
            all_goals
              go_wp2
              go_roundw
            all_goals first
              | exact ⟨acc, a + mx, by go_num, hmb, hrow, hb, hnew⟩
              | (have h1 := hmx.out.2.1; simp [intOf]; omega)
          · have hnew : Hid (Tk.find s = acc ++ [u.take f] ++ Tk.find (s.drop (a + mx))) := Lib.hid (by rw [hfd2.out, HST.out, if_neg (by omega), ← HME.out, HDR.out]; simp)
            have hx := HCUT.out f
            obtain ⟨y, hy⟩ : ∃ y, y = u.take f := ⟨_, rfl⟩
            rw [← hy] at hx hnew
            clear hy
            have hpos : 0 < (f : Int) := by omega
            have hfb : (a : Int) + (f : Int) ≤ (s.length : Int) := by have := hmx.out.2.2 h0.1; omega
            clear hle h0
            go_upto_region 11 with fail
            all_goals
              go_wp2_with (at_builtin; refine wpList_append_lies _ rfl (.tmp 41) (.tmp 48) _ rfl w.heap.size 9 i0 _ 1 16 Tryd.underlying32 hi0 hz0 hz1 hz2 rfl (by omega) _ acc.length (strsV acc) rfl (hown.alloc _) ⟨wr.heap.size, 0, none⟩ 1 1 [.string (S y)] rfl rfl (World.news_of_block (cs := #[.string (S y)]) (t := 9) (fr := (0, 0)) (heap_alloc_new wr _)) (by simp [Value.oneCell']) (by omega) (by omega) (by omega) (by simp; omega) (wr.heap.size + 1) (by simp) ?_; intro gg cap w5 hown5 hgrow hat hlt5)
              go_roundw
            all_goals first
              | exact ⟨acc ++ [y], a + mx, by go_num, hmb, srow_snoc hown5, (hb.alloc hbs _).grown hgrow (by simp; omega) (fun k hk => (hown.lt k hk).1), hnew⟩
              | (have h1 := hmx.out.2.1; simp [intOf]; omega)
    · have hfin : Hid (Tk.find s = acc) := Lib.hid (by rw [hfd.out, List.drop_of_length_le (by omega)]; simp [Tk.find])
      go_wp2
      go_ret
      rw [hfin.out]
      exact ⟨_, rfl, hrow, hb⟩
end Go.Proofs.YtihfpockmginfaaDoor
