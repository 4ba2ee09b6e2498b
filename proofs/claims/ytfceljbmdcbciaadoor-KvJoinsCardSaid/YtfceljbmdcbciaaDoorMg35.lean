/- slices.Grow of none, and slices.Concat of two, of bytes; at most 2^20 in all. A log and its disk side by side in memory, and what a step of either leaves. No condition. -/
import Derived.Test.YtfceljbmdcbciaaDoorMg34
import Derived.LoopN
namespace Go.Proofs.YtfceljbmdcbciaaDoor
set_option maxRecDepth 8000
open Go.RowKit

theorem run_append_zeros_nil (w : World) (ty : TypeId) (m : Nat) (h0 : 0 < m) (hm : m ≤ 1048576) :
    ∃ cap w', (Builtin.append_ #[36, 3] ty #[.slice none 0 0, .int .i64 (m : Int)]).run Tryd.prog w = .ok (.slice (some ⟨w.heap.size, 0, none⟩) m cap) w' ∧ m ≤ cap ∧ cap ≤ maxLen ∧ Row w.heap.size w' (.slice (some ⟨w.heap.size, 0, none⟩) 0 cap) [] ∧ Below w.heap.size w w' := by
  obtain ⟨i0, hi0, hz0, hz1, hz2⟩ := info_parts Tryd.infoByte
  have ht := Tryd.underlying36
  have hti := Tryd.underlying3
  have hw : IntKind.i64.wrap (m : Int) = (m : Int) := IntWalk.i64_in _ (by omega)
  have hm0 : ¬ (m : Int) < 0 := by omega
  have hm48 : ¬ (281474976710656 < (m : Int)) := by omega
  have hfit := growslice_fits (need := m) (old := 0) (bytes := 1) (by omega) (by omega)
  have h48' : ¬ (281474976710656 < Builtin.nextslicecap m 0) := by omega
  have h63' : ¬ (9223372036854775807 < (m : Int)) := by omega
  have hm1 : ¬ m = 0 := by omega
  have hm2 : ¬ m ≤ 0 := by omega
  have hge := grownCap_ge w m 0 5
  have hcm2 : grownCap w m 0 5 ≤ maxLen := grownCap_le_maxLen w m 0 5 (by unfold maxLen; omega)
  refine ⟨grownCap w m 0 5, w.drew.alloc (.cells ((List.replicate m (Value.int .u8 0)).toArray ++ Builtin.zeroCells #[Value.int .u8 0] (grownCap w m 0 5 - m)) 5), ?_, hge, hcm2, ⟨by simp, .inr ⟨w.heap.size, _, _, rfl, Nat.le_refl _, heap_alloc_new w.drew _, Nat.zero_le _, hcm2, ?_, ?_⟩⟩, ⟨rfl, rfl, rfl, by simp, fun k hk => Below.heap_alloc w.drew _ k hk⟩⟩
  · simp [Builtin.append_, run_underlying ht, run_underlying hti, asInt, asIntOf, sizeOf, typeInfo, zeroValue, hi0, hz0, hz1, hz2, hw, hm0, hm48, hm1, h48', h63', Question.forced, newRow, grownCap, Value.cells, zeroCells_one, Builtin.firstCells]
  · simp [Builtin.zeroCells]
    omega
  · simp

theorem wpList_append_zeros_nil {w : World} {ops : Array Oper} {rest : List Oper} {o : Oper} {a : Act} {Q : Exit → Act → World → Prop} (hgd : o.guard = none) (s x : Operand)
    (ho : o.op = .call { callee := .builtin .append, args := #[s, x], argTypes := #[36, 3] })
    (m : Nat) (hs : a.eval s = .slice none 0 0) (hx : a.eval x = .int .i64 (m : Int)) (h0 : 0 < m) (hm : m ≤ 1048576)
    (h : ∀ g cap w', m ≤ cap → cap ≤ maxLen → Row w.heap.size w' (.slice (some ⟨g, 0, none⟩) 0 cap) [] → Below w.heap.size w w' → wpList Tryd.prog ops Q rest (a.put o.dst (.slice (some ⟨g, 0, none⟩) m cap)) w') : wpList Tryd.prog ops Q (o :: rest) a w := by
  refine wpList_plain hgd fun K hK => ?_
  obtain ⟨cap, w', hr, h1, h2, h3, h4⟩ := run_append_zeros_nil w o.type m h0 hm
  unfold Oper.wp execOp
  simp only [ho, resolve, invoke, builtin, Sem.run_bind, Sem.run_pure, Result.andThen_ok, List.map_toArray, List.map_cons, List.map_nil, hs, hx, hr]
  exact hK _ _ (h _ cap w' h1 h2 h3 h4)

set_option maxHeartbeats 800000 in
theorem grow_any (w : World) (n : Nat) (h0 : 0 < n) (hn : n ≤ 1048576) :
    Calls Tryd.prog 101 #[.slice none 0 0, .int .i64 (n : Int)] w fun e w' => ∃ g cap, e = .returned (.slice (some ⟨g, 0, none⟩) 0 cap) ∧ Row w.heap.size w' (.slice (some ⟨g, 0, none⟩) 0 cap) [] ∧ Below w.heap.size w w' := by
  have hnI : (0 : Int) < (n : Int) := by omega
  have hnI2 : ¬ (n : Int) < 0 := by omega
  go_enter Tryd.func101, Tryd.ntmps101
  go_wp2_with (at_builtin; refine wpList_append_zeros_nil rfl (.tmp 20) (.tmp 21) rfl n rfl rfl h0 hn ?_; intro g cap w1 hc1 hc2 hrow hb; have hcI : (0 : Int) ≤ (cap : Int) := by omega)
  go_ret
  exact ⟨g, cap, rfl, hrow, hb⟩

set_option maxHeartbeats 3200000 in
theorem concat_any (w : World) (g c1 n1 c2 n2 : Nat) (A1 A2 : Option Addr) (l1 l2 : List UInt8) (hblk : w.heap[g]? = some (.cells #[.slice A1 n1 c1, .slice A2 n2 c2] 36 (0, 0))) (h1 : BCells w w.heap.size A1 l1) (hn1 : l1.length = n1) (h2 : BCells w w.heap.size A2 l2) (hn2 : l2.length = n2) (h0 : 0 < n1 + n2) (hmax : n1 + n2 ≤ 1048576) :
    Calls Tryd.prog 71 #[.slice (some ⟨g, 0, none⟩) 2 2] w (OwnPost w (n1 + n2) (l1 ++ l2)) := by
  have a1 := cell_of_row w g 0 _ _ _ hblk
  have a2 := cell_of_row w g 1 _ _ _ hblk
  have hw1 : IntKind.i64.wrap ((n1 : Int) + (n2 : Int)) = (n1 : Int) + (n2 : Int) := IntWalk.i64_in _ (by omega)
  have hs1 : ¬ (n1 : Int) < 0 := by omega
  have hs2 : ¬ ((n1 : Int) + (n2 : Int)) < 0 := by omega
  obtain ⟨n, hn⟩ : ∃ n, n = n1 + n2 := ⟨_, rfl⟩
  have hnI : (n1 : Int) + (n2 : Int) = (n : Int) := by omega
  have HG := Lib.hid (grow_any w n (by omega) (by omega))
  rw [← hn]
  have HN := Lib.hid hn
  have HH1 := Lib.hid (And.intro h1 hn1)
  have HH2 := Lib.hid (And.intro h2 hn2)
  have HBK := Lib.hid hblk
  have hs3 : ¬ (n : Int) < 0 := by omega
  clear hn h1 hn1 h2 hn2 hblk
  go_enter Tryd.func71, Tryd.ntmps71
  go_wp2_with fail
  refine wp_loop_rounds 3 ?_
  rw [rounds_succ]
  go_wp2_with fail
  rw [rounds_succ]
  go_wp2_with fail
  rw [rounds_succ]
  go_wp2_with fail
  refine HG.out.mono ?_
  rintro _ w3 ⟨gg, cap, rfl, hrow3, hb3⟩
  have hg3 := (hb3.block _ (Array.getElem?_eq_some_iff.1 HBK.out).1).trans HBK.out
  have b1 := cell_of_row w3 g 0 _ _ _ hg3
  have hbc1 : BC w3 A1 l1 := (HH1.out.1.below hb3).bc
  have hsz3 := hb3.size
  have HN1 := Lib.hid HH1.out.2
  have HN2 := Lib.hid HH2.out.2
  have HB3 := Lib.hid hb3
  clear a1 a2 hb3 HG
  go_wp2_with fail
  refine wp_loop_rounds 3 ?_
  rw [rounds_succ]
  go_wp2_with (at_builtin; refine wpList_append_bytes rfl (.tmp 31) (.tmp 32) rfl w.heap.size (.slice (some ⟨gg, 0, none⟩) 0 cap) A1 c1 n1 [] l1 rfl HN1.out rfl hrow3 hbc1 (by rw [HN1.out, List.length_nil]; omega) hsz3 ?_; intro v4 w4 hown4 hgrow4)
  rw [List.nil_append] at hown4
  obtain ⟨A4, c4, rfl, _⟩ := hown4.form
  have hb4 := HB3.out.grown hgrow4 hsz3 (fun k hk => (World.ownsRow.lt hrow3 k hk).1)
  have hg4 := (hb4.block _ (Array.getElem?_eq_some_iff.1 HBK.out).1).trans HBK.out
  have b2 := cell_of_row w4 g 1 _ _ _ hg4
  have hbc2 : BC w4 A2 l2 := (HH2.out.1.below hb4).bc
  have hsz4 := hb4.size
  have HB4 := Lib.hid hb4
  rw [HN1.out] at hown4 ⊢
  clear b1 hb4 hg3 hgrow4 hrow3 hbc1
  rw [rounds_succ]
  go_wp2_with (at_builtin; refine wpList_append_bytes rfl (.tmp 31) (.tmp 32) rfl w.heap.size (.slice A4 n1 c4) A2 c2 n2 l1 l2 rfl HN2.out rfl hown4 hbc2 (by rw [HN1.out, HN2.out]; omega) hsz4 ?_; intro v5 w5 hown5 hgrow5)
  obtain ⟨A5, c5, rfl, _⟩ := hown5.form
  have hb5 := HB4.out.grown hgrow5 hsz4 (fun k hk => (World.ownsRow.lt hown4 k hk).1)
  have HEND : Hid (OwnPost w n (l1 ++ l2) (.returned (.slice A5 (l1 ++ l2).length c5)) w5) := Lib.hid (by
    have e : (l1 ++ l2).length = n := by rw [List.length_append, HN1.out, HN2.out, HN.out]
    rw [e] at hown5 ⊢
    exact ⟨A5, c5, rfl, hown5, hb5⟩)
  clear b2 hb5 hgrow5 hown4 hbc2 hown5
  rw [rounds_succ]
  go_wp2_with fail
  go_ret
  exact HEND.out
end Go.Proofs.YtfceljbmdcbciaaDoor
namespace Go.Proofs.YtfceljbmdcbciaaDoor
set_option maxRecDepth 8000
open Go.RowKit

/-- A disk at P and a log at L, whose blocks are of F. -/
def SY (F : Nat → Prop) (w : World) (P L : Nat) (d : Dk.D) (l : Wl.L) : Prop :=
  ∃ (G : Nat → Prop) (m : Lm), m.L = L ∧ m.P = P ∧ HD G w P d ∧ LAt w m l ∧ (∀ x ∈ m.F, ¬ G x ∧ F x) ∧ (∀ x, G x → F x ∧ x < w.heap.size)
theorem SY.keep {F : Nat → Prop} {w w' : World} {P L : Nat} {d : Dk.D} {l : Wl.L} (h : SY F w P L d l) (hb : Below w.heap.size w w') : SY F w' P L d l := by
  obtain ⟨G, m, h1, h2, h3, h4, h5, h6⟩ := h
  exact ⟨G, m, h1, h2, h3.keep hb, h4.keep hb, h5, fun x hx => ⟨(h6 x hx).1, Nat.lt_of_lt_of_le (h6 x hx).2 hb.size⟩⟩
theorem SY.mono {F F' : Nat → Prop} {w : World} {P L : Nat} {d : Dk.D} {l : Wl.L} (h : SY F w P L d l) (hs : ∀ x, F x → F' x) : SY F' w P L d l := by
  obtain ⟨G, m, h1, h2, h3, h4, h5, h6⟩ := h
  exact ⟨G, m, h1, h2, h3, h4, fun x hx => ⟨(h5 x hx).1, hs x (h5 x hx).2⟩, fun x hx => ⟨hs x (h6 x hx).1, (h6 x hx).2⟩⟩
theorem SY.out {F H : Nat → Prop} {w w' : World} {P L : Nat} {d : Dk.D} {l : Wl.L} (h : SY F w P L d l) (ho : OutP H w w') (hn : ∀ x, F x → ¬ H x) : SY F w' P L d l := by
  obtain ⟨G, m, h1, h2, h3, h4, h5, h6⟩ := h
  exact ⟨G, m, h1, h2, h3.out ho (fun x _ hx => hn x (h6 x hx).1), h4.same (fun x hx => ho.block x (h4.lt x hx) (hn x (h5 x hx).2)) ho.size, h5, fun x hx => ⟨(h6 x hx).1, Nat.lt_of_lt_of_le (h6 x hx).2 ho.size⟩⟩
theorem SY.hd {F : Nat → Prop} {w : World} {P L : Nat} {d : Dk.D} {l : Wl.L} (h : SY F w P L d l) : HD F w P d := by
  obtain ⟨G, m, h1, h2, h3, h4, h5, h6⟩ := h
  exact h3.mono (fun x hx => (h6 x hx).1)
theorem SY.at {F : Nat → Prop} {w : World} {P L : Nat} {d : Dk.D} {l : Wl.L} (h : SY F w P L d l) : ∃ m : Lm, m.L = L ∧ m.P = P ∧ LAt w m l := by
  obtain ⟨G, m, h1, h2, h3, h4, h5, h6⟩ := h
  exact ⟨m, h1, h2, h4⟩
/-- A step of the disk alone. -/
theorem SY.disk {F : Nat → Prop} {w w' : World} {P L : Nat} {d d' : Dk.D} {l : Wl.L} (h : SY F w P L d l) (hs : ∀ G : Nat → Prop, HD G w P d → (∀ x, G x → F x) → HD (Or G w.heap.size w'.heap.size) w' P d' ∧ OutP G w w') : SY (Or F w.heap.size w'.heap.size) w' P L d' l ∧ OutP F w w' := by
  obtain ⟨G, m, h1, h2, h3, h4, h5, h6⟩ := h
  obtain ⟨h7, h8⟩ := hs G h3 (fun x hx => (h6 x hx).1)
  have hz := h8.size
  refine ⟨⟨Or G w.heap.size w'.heap.size, m, h1, h2, h7, h4.same (fun x hx => h8.block x (h4.lt x hx) (h5 x hx).1) hz, fun x hx => ⟨fun hor => hor.elim (h5 x hx).1 (fun h => by have := h4.lt x hx; omega), .inl (h5 x hx).2⟩, fun x hx => ?_⟩, h8.mono (fun x hx => (h6 x hx).1)⟩
  rcases hx with hx | hx
  · exact ⟨.inl (h6 x hx).1, by have := (h6 x hx).2; omega⟩
  · exact ⟨.inr hx, hx.2⟩
def SyPost (F : Nat → Prop) (w : World) (P L : Nat) (r : Int × Dk.D × Wl.L) (e : Ending) (w' : World) : Prop :=
  e = .returned (.int .i64 r.1) ∧ SY (Or F w.heap.size w'.heap.size) w' P L r.2.1 r.2.2 ∧ OutP F w w'
theorem sy_same {F : Nat → Prop} {w w' : World} {P L : Nat} {d : Dk.D} {l : Wl.L} (h : SY F w P L d l) (hb : Below w.heap.size w w') (x : Int) : SyPost F w P L (x, d, l) (.returned (.int .i64 x)) w' :=
  ⟨rfl, (h.keep hb).mono (fun _ hx => .inl hx), OutP.of hb⟩
theorem sy_keep {F G : Nat → Prop} {w w5 w6 : World} {m : Lm} {A : Option Addr} {r : Int × Dk.D × Wl.L} {e : Ending} (hGF : ∀ x, G x → F x ∧ x < w.heap.size) (hm : ∀ x ∈ m.F, ¬ G x ∧ F x) (hml : ∀ x ∈ m.F, x < w.heap.size) (hb5 : Below w.heap.size w w5) (hA : ∀ x ∈ blkOf A, w.heap.size ≤ x ∧ x < w5.heap.size) (hk : KeepPost G w5 m A r e w6) : SyPost F w m.P m.L r e w6 := by
  obtain ⟨e1, h1, h2, m', h3, h4, h5, h6⟩ := hk
  have hz5 := hb5.size
  have hz6 := h2.size
  refine ⟨e1, ⟨Or G w5.heap.size w6.heap.size, m', h3, h4, by rw [← h4] at h1 ⊢; exact h1, h5, fun x hx => ?_, fun x hx => ?_⟩, ?_⟩
  · rcases (mem_LF m' x).1 hx with rfl | hx
    · rw [h3]
      have hL : m.L ∈ m.F := (mem_LF m _).2 (.inl rfl)
      exact ⟨fun hor => hor.elim (hm _ hL).1 (fun h => by have := hml _ hL; omega), .inl (hm _ hL).2⟩
    · rcases h6 with h6 | h6
      · rw [h6] at hx
        have hL : x ∈ m.F := (mem_LF m _).2 (.inr hx)
        exact ⟨fun hor => hor.elim (hm _ hL).1 (fun h => by have := hml _ hL; omega), .inl (hm _ hL).2⟩
      · rw [h6] at hx
        have := hA x hx
        exact ⟨fun hor => hor.elim (fun h => by have := (hGF x h).2; omega) (fun h => by omega), .inr ⟨by omega, by omega⟩⟩
  · rcases hx with hx | hx
    · exact ⟨.inl (hGF x hx).1, by have := (hGF x hx).2; omega⟩
    · exact ⟨.inr ⟨by omega, by omega⟩, hx.2⟩
  · exact (OutP.of hb5).trans h2 (fun _ _ h => h) (fun x _ h => h.elim (fun h => (hGF x h).1) (fun h => by rw [h]; exact (hm _ ((mem_LF m _).2 (.inl rfl))).2))
end Go.Proofs.YtfceljbmdcbciaaDoor
