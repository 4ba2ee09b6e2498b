/- The statement CookieLines answers true, for any slice of pairs, where the variables of the library that it reaches read as their texts lay them. -/
import Derived.Test.YtpdilhnbbokipaaDoorCq
import Derived.Test.YtpdilhnbbokipaaDoorCg
namespace Go.Proofs.YtpdilhnbbokipaaDoor
set_option maxRecDepth 8000
open Go.RowKit

theorem PCells.below {w w' : World} {B B' : Nat} {A : Option Addr} {l : List Pct.PairL} (h : PCells w B A l) (hb : Below B w w') (hB : B ≤ B') : PCells w' B' A l := by
  obtain ⟨A', cap', h1, h2⟩ := (PReads.below (v := .slice A l.length 0) ⟨A, 0, rfl, h⟩ hb).more hB
  injection h1 with h3
  subst h3
  exact h2
theorem few_okP {l : List Pct.PairL} (h : ∀ j (hj : j < l.length), Ck.okP l[j] = true) : l.all Ck.okP = true := by
  rw [List.all_eq_true]
  intro x hx
  obtain ⟨j, hj, rfl⟩ := List.getElem_of_mem hx
  exact h j hj

set_option maxHeartbeats 1600000 in
theorem cookieLines_any (A : Option Addr) (cap : Nat) (l : List Pct.PairL) (W : World) (he : EnvC W) (hl : PCells W W.heap.size A l) (hm : l.length ≤ 9223372036854775807) :
    Calls Tryd.prog 6 #[.slice A l.length cap] W (AwakePost W) := by
  go_enter Tryd.func6, Tryd.ntmps6
  go_wp2_with fail
  refine (awake_any W he).mono ?_
  rintro e w ⟨rfl, hb⟩
  have hl1 : PCells w w.heap.size A l := hl.below hb hb.size
  clear hl
  have HL1 := Lib.hid hl1
  go_wp2_with fail
  refine (few_any A cap l w hl1 hm).mono ?_
  rintro e w' ⟨rfl, rfl⟩
  cases hf : fewB l with
  | false =>
    clear hf
    go_wp2
    go_ret
    exact ⟨rfl, hb⟩
  | true =>
    obtain ⟨hsh, h50⟩ := few_short hf
    have HSH := Lib.hid hsh
    clear hf hsh hm
    go_wp2
    go_loop [5] (fun i => ∃ k : Nat, k ≤ l.length ∧ i = .int .i64 k ∧ ∀ j (hj : j < l.length), j < k → Ck.okP l[j] = true) (fun i => l.length - (intOf i).toNat)
    case atStart => exact ⟨0, Nat.zero_le _, rfl, fun j _ hj => absurd hj (by omega)⟩
    case round =>
      obtain ⟨k, hk, rfl, hall⟩ := hrel
      have HALL := Lib.hid hall
      clear hall
      by_cases hlt : k < l.length
      · obtain ⟨b, off, rfl, hbb, hc⟩ := hl1 (by omega)
        obtain ⟨c0, c1⟩ := hc k hlt
        have hf1 : short1 l[k] = true := List.all_eq_true.1 HSH.out _ (List.getElem_mem hlt)
        have hn60 : l[k].1.length ≤ 1000 := by unfold short1 at hf1; simp at hf1; exact hf1.1
        have hv60 : l[k].2.length ≤ 1000 := by unfold short1 at hf1; simp at hf1; exact hf1.2
        have hT := refToken_any l[k].1 w (by omega)
        have hV := refValue_any l[k].2 w (by omega)
        clear hc hf1 hl1
        have n0 : (0 : Int) ≤ (k : Int) := by omega
        have n1 : (k : Int) < (l.length : Int) := by omega
        cases ht : Ck.token l[k].1 with
        | false =>
          rw [ht] at hT
          clear ht
          go_wp2_with (go_at_call 23; refine hT.mono ?_; rintro e w' ⟨rfl, rfl⟩)
          go_ret
          exact ⟨rfl, hb⟩
        | true =>
          rw [ht] at hT
          cases hv : Ck.value l[k].2 with
          | false =>
            rw [hv] at hV
            clear ht hv
            go_wp2_with (first
              | (go_at_call 23; refine hT.mono ?_; rintro e w' ⟨rfl, rfl⟩)
              | (go_at_call 24; refine hV.mono ?_; rintro e w' ⟨rfl, rfl⟩))
            go_ret
            exact ⟨rfl, hb⟩
          | true =>
            rw [hv] at hV
            have HO := Lib.hid (show Ck.okP l[k] = true by unfold Ck.okP; rw [ht, hv]; rfl)
            clear ht hv
            go_wp2_with (first
              | (go_at_call 23; refine hT.mono ?_; rintro e w' ⟨rfl, rfl⟩)
              | (go_at_call 24; refine hV.mono ?_; rintro e w' ⟨rfl, rfl⟩))
            go_round
            case rel =>
              refine ⟨k + 1, by omega, by go_num, fun j hj hjk => ?_⟩
              by_cases e : j = k
              · subst e; exact HO.out
              · exact HALL.out j hj (by omega)
            case measure => simp [intOf]; omega
      · have hok : l.all Ck.okP = true := few_okP fun j hj => HALL.out j hj (by omega)
        have HOK := Lib.hid hok
        have hll := line_len l HSH.out
        have hLine := line_any A cap l w HL1.out HSH.out h50
        obtain ⟨z, hz⟩ : ∃ z, z = Ck.line l := ⟨_, rfl⟩
        rw [← hz] at hll hLine
        have HZ := Lib.hid hz
        clear hz hok
        go_wp2_with fail
        refine hLine.mono ?_
        rintro e w1 ⟨rfl, hb1⟩
        have hW1 : Below W.heap.size W w1 := hb.trans (hb1.mono hb.size)
        have hS := sent_any z w1 (by omega)
        go_wp2_with fail
        refine hS.mono ?_
        intro e w2 hp
        by_cases h20 : l.length ≤ 20
        · rw [HZ.out, Ck.sent_line HOK.out h20] at hp
          obtain ⟨v, rfl, hrow, hb2⟩ := hp
          obtain ⟨A2, cap2, rfl⟩ := hrow.form
          have hW2 : Below W.heap.size W w2 := hW1.trans (hb2.mono hW1.size)
          have hl2 : PCells w2 w2.heap.size A l := HL1.out.below (hb1.trans (hb2.mono hb1.size)) (Nat.le_trans hb1.size hb2.size)
          have hP := pairs_any (.slice A l.length cap) (.slice A2 l.length cap2) l l w2 ⟨A, cap, rfl, hl2⟩ hrow.reads (by omega)
          rw [show decide (l = l) = true from by simp] at hP
          have h20' : (l.length : Int) ≤ 20 := by omega
          clear hl2 hS hLine hrow hb2 hb1
          go_wp2_with (go_at_call 13; refine hP.mono ?_; rintro e w8 ⟨rfl, n8, rfl⟩)
          go_ret
          exact ⟨rfl, below_drewN hW2 n8⟩
        · rw [HZ.out, Ck.sent_over HOK.out (by omega)] at hp
          obtain ⟨rfl, hb2⟩ := hp
          have hW2 : Below W.heap.size W w2 := hW1.trans (hb2.mono hW1.size)
          have h20' : (20 : Int) < (l.length : Int) := by omega
          clear hS hLine hb2 hb1 h20
          go_wp2
          go_ret
          exact ⟨rfl, hW2⟩
end Go.Proofs.YtpdilhnbbokipaaDoor
