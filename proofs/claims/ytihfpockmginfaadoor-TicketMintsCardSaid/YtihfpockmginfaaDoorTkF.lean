/- What package ticket's Find answers, for any text of at most 2^30 bytes. -/
import Derived.Test.YtihfpockmginfaaDoorTkE
namespace Go.Proofs.YtihfpockmginfaaDoor
set_option maxRecDepth 8000
open Go.RowKit

theorem cut_of (s a b : List UInt8) (f : Bool) (h : Pct.cutAt 45 s = (a, b, f)) : (45 : UInt8) ∉ a ∧ (f = true → s = a ++ 45 :: b) ∧ (f = false → (45 : UInt8) ∉ s) := by
  rcases Tk.cut_cases s with hn | ⟨x, r, hx, rfl⟩
  · rw [Tk.cutAt_none s hn] at h
    cases h
    exact ⟨hn, fun h => absurd h (by decide), fun _ => hn⟩
  · rw [Tk.cutAt_dash x r hx] at h
    cases h
    exact ⟨hx, fun _ => rfl, fun h => absurd h (by decide)⟩

set_option maxHeartbeats 1600000 in
theorem find_any (s : List UInt8) (hl : s.length ≤ 1073741824) (w : World) (hE : EnvT w) :
    Calls Tryd.prog 17 #[.string (S s)] w fun e w' => ∃ v, e = .returned v ∧ SRow w.heap.size w' v (Tk.find s) ∧ Below w.heap.size w w' := by
  obtain ⟨⟨a, b, f⟩, hc⟩ : ∃ q, Pct.cutAt 45 s = q := ⟨_, rfl⟩
  have hC := strCut_to s 45 a b f w (by omega) hc
  have hE0 := Lib.hid hE
  obtain ⟨i0, hi0, hz0, hz1, hz2⟩ := info_parts Tryd.infoString
  have hnil : SRow w.heap.size w (.slice none 0 0) [] := World.ownsRow_nil _ _ _ _
  go_enter Tryd.func17, Tryd.ntmps17
  go_upto_region 3 with (go_at_call 26; refine hC.mono ?_; rintro e w1 ⟨rfl, hb1⟩)
  go_loopw [3, 4, 5, 6] (fun v4 va vb vf wr => ∃ (acc : List (List UInt8)) (r a b : List UInt8) (f : Bool), va = .string (S a) ∧ vb = .string (S b) ∧ vf = .bool f ∧ SRow w.heap.size wr v4 acc ∧ Below w.heap.size w wr ∧ Hid (Pct.cutAt 45 r = (a, b, f) ∧ r.length ≤ s.length ∧ Tk.find s = acc ++ Tk.find r)) (fun _ _ vb vf _ => strLen vb + boolN vf)
  case atStart => exact ⟨[], s, a, b, f, rfl, rfl, rfl, own_below hnil hb1, hb1, Lib.hid ⟨hc, Nat.le_refl _, rfl⟩⟩
  case round =>
    clear hC hc hb1 hnil
    obtain ⟨acc, r, a, b, f, rfl, rfl, rfl, hrow, hb, hh⟩ := hrel
    obtain ⟨hc, hrl, hfd⟩ := hh.out
    clear hh
    obtain ⟨hd1, hd2, hd3⟩ := cut_of r a b f hc
    have hlen := cutAt_len 45 r
    rw [hc] at hlen
    simp only at hlen
    cases f with
    | false =>
      have hfin : Hid (Tk.find s = acc) := Lib.hid (by rw [hfd, Tk.find_none r (hd3 rfl), List.append_nil])
      clear hfd hd1 hd2 hd3
      go_wp2
      go_ret
      rw [hfin.out]
      exact ⟨_, rfl, hrow, hb⟩
    | true =>
      have hr := hd2 rfl
      have hfd2 : Tk.find s = acc ++ (Tk.hit a b ++ Tk.find b) := by rw [hfd, hr, Tk.find_dash a b hd1]
      have hlen2 : (Tk.find s).length ≤ s.length := Tk.find_len s
      have hacc : acc.length ≤ s.length := by rw [hfd, List.length_append] at hlen2; omega
      have HFD := Lib.hid hfd2
      obtain ⟨⟨a', b', f'⟩, hc'⟩ : ∃ q, Pct.cutAt 45 b = q := ⟨_, rfl⟩
      have HC' := Lib.hid hc'
      have hms := cut_measure hc'
      have hE1 := hE0.out.next hb
      obtain ⟨k, hk⟩ : ∃ k, k = Tk.ending a := ⟨_, rfl⟩
      have hk6 : k ≤ 6 := by rw [hk]; exact Tk.ending_le a
      have HK := Lib.hid hk
      have hA := fun w' h => ending_any a (by omega) w' h
      have hP := fun w' h => prefix_any (k : Int) w' h
      have hE2 : ∀ n, EnvT (wr.drewN n) := fun n => hE1.next (below_drewN (Below.refl _ _) n)
      rw [← hk] at hA
      rw [preI_nat] at hP
      have hpl : (Tk.pre k).length ≤ 6 := by rw [← preI_nat]; exact preI_len _
      obtain ⟨m, hm⟩ : ∃ m, m = min 16 b.length := ⟨_, rfl⟩
      have hmn : ∀ w, (Builtin.min_ #[3, 3] 3 #[.int .i64 16, .int .i64 ((S b).size : Int)]).run Tryd.prog w = .ok (.int .i64 (m : Int)) w := fun w => by
        rw [run_min_int2]
        have : (if ((S b).size : Int) < 16 then ((S b).size : Int) else 16) = (m : Int) := by
          show (if (b.length : Int) < 16 then (b.length : Int) else 16) = _
          split <;> omega
        rw [this]
      have hx : (S b).extract 0 m = S (b.take 16) := by
        have h1 := extract_piece (S b) 0 m
        rw [h1, S_toList]
        have : (b.drop 0).take (m - 0) = b.take 16 := by
          rw [List.drop_zero, Nat.sub_zero, hm]
          rcases Nat.le_total b.length 16 with h | h
          · rw [Nat.min_eq_right h, List.take_length, List.take_of_length_le h]
          · rw [Nat.min_eq_left h]
        rw [this]
      have hmb : (m : Int) ≤ ((S b).size : Int) := by show (m : Int) ≤ (b.length : Int); omega
      have hbt : (b.take 16).length ≤ 16 := by rw [List.length_take]; omega
      have a1 : ∀ w, (Op.stringOp .add (S (Tk.pre k)) ⟨#[45]⟩).run Tryd.prog w = .ok (.string (S (Tk.pre k ++ [45]))) w := fun w => run_add_S w (Tk.pre k) [45] (by simp; omega)
      have a2 : ∀ w, (Op.stringOp .add (S (Tk.pre k ++ [45])) (S (b.take 16))).run Tryd.prog w = .ok (.string (S (Tk.pre k ++ [45] ++ b.take 16))) w := fun w => run_add_S w _ _ (by simp; omega)
      obtain ⟨y, hy⟩ : ∃ y, y = Tk.pre k ++ [45] ++ b.take 16 := ⟨_, rfl⟩
      have hy' : y = Tk.pre k ++ 45 :: b.take 16 := by rw [hy]; simp
      have hyl : y.length ≤ 30 := by rw [hy]; simp; omega
      rw [← hy] at a2
      have hpc := Tk.tell_piece k b
      rw [← hy'] at hpc
      have hhit : Hid (Tk.hit a b = if (Tk.tell y).2.2 = true then [y] else []) := Lib.hid (by
        rw [hpc]
        unfold Tk.hit
        rw [← hk, hy']
        by_cases h0 : k = 0
        · simp [h0]
        · simp [h0, hk6])
      have hQ := fun w' h => parse_any y (by omega) w' h
      unfold tellV at hQ
      generalize (Tk.tell y).1 = tk at hQ
      generalize (Tk.tell y).2.1 = tn at hQ
      generalize (Tk.tell y).2.2 = tb at hQ hhit
      generalize Tk.pre k = p at hP a1 a2
      generalize p ++ [45] = p1 at a1 a2
      generalize b.take 16 = b16 at a2 hx
      clear hfd hfd2 hc hc' hk hy hy' hpc hd1 hd2 hd3 hm hr
      have hbd : ∀ n, Below w.heap.size w (wr.drewN n) := fun n => below_drewN hb n
      have hown : ∀ n, SRow w.heap.size (wr.drewN n) u3 acc := fun n => own_below hrow (below_drewN (Below.refl _ _) n)
      go_upto_region 5 with fail
      go_quiet ((first
        | (go_at_call 27; exact Calls.quiet_of_same (hA _ (hE2 _)))
        | (go_at_call 13; exact Calls.quiet_of_same (hP _ (hE2 _)))))
      have hb2 := hbd nq
      have hown2 : (wr.drewN nq).ownsRow w.heap.size 9 1 u3 acc.length (strsV acc) := hown nq
      have hE3 := hE2 nq
      clear hbd hown hE2 hA hP a1 a2 hmn hx
      generalize wr.drewN nq = wz at hb2 hown2 hE3 ⊢
      have hQ3 := hQ wz hE3
      clear hQ
      have hC' := fun w' => strCut_to b 45 a' b' f' w' (by omega) HC'.out
      have h63 : acc.length + 1 ≤ maxLen := by unfold maxLen; omega
      cases tb with
      | false =>
        have hfin : Hid (Pct.cutAt 45 b = (a', b', f') ∧ b.length ≤ s.length ∧ Tk.find s = acc ++ Tk.find b) := Lib.hid ⟨HC'.out, by omega, by rw [HFD.out, hhit.out]; simp⟩
        go_wp2_with (first
          | (go_at_call 11; refine hQ3.mono ?_; rintro e w3 ⟨rfl, hb3⟩)
          | (go_at_call 26; refine (hC' _).mono ?_; rintro e w4 ⟨rfl, hb4⟩))
        go_roundw
        case rel => exact ⟨acc, b, a', b', f', rfl, rfl, rfl, own_below (own_below hown2 hb3) hb4, (hb2.trans (hb3.mono hb2.size)).trans (hb4.mono (hb2.trans (hb3.mono hb2.size)).size), hfin⟩
        case measure => exact hms
      | true =>
        have hfin : Hid (Pct.cutAt 45 b = (a', b', f') ∧ b.length ≤ s.length ∧ Tk.find s = acc ++ [y] ++ Tk.find b) := Lib.hid ⟨HC'.out, by omega, by rw [HFD.out, hhit.out]; simp⟩
        go_upto_region 8 with (go_at_call 11; refine hQ3.mono ?_; rintro e w3 ⟨rfl, hb3⟩)
        have hown3 : w3.ownsRow w.heap.size 9 1 u3 acc.length (strsV acc) := own_below hown2 hb3
        have hb23 := hb2.trans (hb3.mono hb2.size)
        have hbs := hb23.size
        go_wp2_with (first
          | (at_builtin; refine wpList_append_lies _ rfl (.tmp 41) (.tmp 43) _ rfl w.heap.size 9 i0 _ 1 16 Tryd.underlying32 hi0 hz0 hz1 hz2 rfl (by omega) _ acc.length (strsV acc) rfl (hown3.alloc _) ⟨w3.heap.size, 0, none⟩ 1 1 [.string (S y)] rfl rfl (World.news_of_block (cs := #[.string (S y)]) (t := 9) (fr := (0, 0)) (heap_alloc_new w3 _)) (by simp [Value.oneCell']) (by omega) (by omega) (by omega) (by simp; omega) (w3.heap.size + 1) (by simp) ?_; intro gg cap w5 hown5 hgrow hat hlt5)
          | (go_at_call 26; refine (hC' _).mono ?_; rintro e w4 ⟨rfl, hb4⟩))
        have hb5 := (hb23.alloc hbs _).grown hgrow (by simp; omega) (fun k hk => (hown3.lt k hk).1)
        go_roundw
        case rel => exact ⟨acc ++ [y], b, a', b', f', rfl, rfl, rfl, own_below (srow_snoc hown5) hb4, hb5.trans (hb4.mono hb5.size), hfin⟩
        case measure => exact hms
end Go.Proofs.YtihfpockmginfaaDoor
