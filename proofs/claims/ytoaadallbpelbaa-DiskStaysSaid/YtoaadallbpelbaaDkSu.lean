/- What the statement on what stays as it is answers, where the block is there: true. No condition. -/
import Derived.Test.YtoaadallbpelbaaDkSt
namespace Go.Proofs.Ytoaadallbpelbaa
set_option maxRecDepth 8000
open Go.RowKit

set_option maxHeartbeats 6400000 in
theorem stays_good (w : World) (bl : Int) (j : Nat) (Al B' C : Option Addr) (cl cb cc : Nat) (l : List Dk.O) (b cuts : List UInt8) (hO : OpsIn w w.heap.size Al l) (hll : l.length ≤ 9223372036854775807) (hB : BInB w w.heap.size B' b) (lb : b.length ≤ 9223372036854775807) (hC : BInB w w.heap.size C cuts) (lc : cuts.length ≤ 9223372036854775807) (hf : Dk.fewB l = true) (h40 : ¬ 40 < bl) (h32 : ¬ 32 < b.length) (h100 : ¬ 100 < cuts.length) (hgood : j < (Dk.run (Dk.new bl) l).n) :
    Calls Try.prog 6 #[.int .i64 bl, .slice Al l.length cl, .int .i64 (j : Int), .slice B' b.length cb, .slice C cuts.length cc] w (AwakePost w) := by
  have hl : ¬ (32 : Int) < (b.length : Int) := by omega
  have hl2 : ¬ (100 : Int) < (cuts.length : Int) := by omega
  go_enter Try.func6, Try.ntmps6
  go_wp2_with fail
  refine (awake_any w).mono ?_
  rintro e w1 ⟨rfl, hb1⟩
  have hFew := few_any w1 w.heap.size Al cl l (hO.keep hb1) hll
  rw [hf] at hFew
  go_wp2_with fail
  refine hFew.mono ?_
  rintro e w' ⟨rfl, rfl⟩
  clear hFew
  go_wp2_with fail
  have hBeh := behind_any w1 w.heap.size bl Al cl l (hO.keep hb1) hb1.size hf
  obtain ⟨d, hd⟩ : ∃ d, d = Dk.run (Dk.new bl) l := ⟨_, rfl⟩
  have hst : d.st.length ≤ 40 := by rw [hd]; exact behind_st bl l hf
  rw [← hd] at hBeh
  refine hBeh.mono ?_
  rintro e w2 ⟨P, rfl, hsd0, hb2⟩
  have HB2 := Lib.hid (hb1.trans (hb2.mono hb1.size))
  have hsd := hsd0.base hb1.size
  rw [← hd] at hgood
  clear hsd0 hBeh hb1 hb2 hd hO
  clear hf
  go_wp2_with fail
  have hCr := crash_nil_sd hsd HB2.out.size (by omega)
  refine hCr.mono ?_
  rintro e w3 ⟨rfl, hsd3, hb3⟩
  have HB3 := Lib.hid (HB2.out.trans hb3)
  clear hCr hb3 hsd
  go_wp2_with fail
  have hBy := bytes_sd hsd3
  obtain ⟨kp, hkp⟩ : ∃ kp, kp = d.kept := ⟨_, rfl⟩
  obtain ⟨N, hN⟩ : ∃ N, N = d.n := ⟨_, rfl⟩
  dsimp only at hBy
  rw [← hkp] at hBy hsd3
  rw [← hN] at hsd3 hgood
  have hN512 : N ≤ 512 := hsd3.ok.n
  obtain ⟨L, hL⟩ : ∃ L, L = 32 * N := ⟨_, rfl⟩
  have HKL := Lib.hid (show kp.length = L by rw [hL]; exact hsd3.ok.kept)
  have HLL := Lib.hid hL
  clear hkp hN hL
  refine hBy.mono ?_
  rintro e w4 ⟨⟨A4, c4, rfl, hown4⟩, hb4⟩
  rw [HKL.out]
  obtain ⟨hse4, _⟩ := hsd3.se.add hb4 (blkOf A4) (byrow_new hown4)
  rw [List.append_nil] at hse4
  have HB4 := Lib.hid (HB3.out.trans (hb4.mono HB3.out.size))
  have HOWN4 := Lib.hid hown4
  clear hBy hb4 hsd3 hown4
  have HG := Lib.hid hgood
  clear hgood
  go_wp2_with fail
  have hW := write_se hse4 HB4.out.size (by simp) (j : Int) B' cb b lb (hB.keep HB4.out)
  obtain ⟨q1, q2⟩ := (Dk.fresh_write (d := ⟨N, kp, [], [], -1⟩) (by show (-1 : Int) < 0; omega) rfl (j : Int) b (by omega)).2 (by omega) (by have := HG.out; show (j : Int) < (N : Int); omega)
  rw [q1, q2] at hW
  rw [Int.toNat_natCast, List.nil_append] at hW
  clear q1 q2
  refine hW.mono ?_
  rintro e w5 ⟨rfl, hse5, hb5, hx5⟩
  have HB5 := Lib.hid (HB4.out.trans hb5)
  have HX5 := Lib.hid hx5
  clear hW hb5 hse4 hx5
  go_wp2_with fail
  have hR := read_sd hse5.sd (by simp) j (by show j < N; exact HG.out)
  have es : Dk.seen j (Dk.blk kp j) [(j, Dk.pad b)] = Dk.pad b := by unfold Dk.seen; simp
  dsimp only at hR
  rw [es] at hR
  clear es
  refine hR.mono ?_
  rintro e w6 ⟨g, rfl, hg, hbg, hb6⟩
  obtain ⟨hse6, hx6⟩ := hse5.add hb6 [g] (fun y hy => by rw [List.mem_singleton] at hy; subst hy; exact ⟨hg, lt_of_blk' hbg⟩)
  have HB6 := Lib.hid (HB5.out.trans (hb6.mono HB5.out.size))
  have HX6 := Lib.hid (HX5.out.trans hx6)
  have HSEEN := Lib.hid hbg
  clear hR hg hb6 hse5 hx6 hbg
  go_wp2_with fail
  have hCr := crash_se hse6 HB6.out.size (by simp) C cc cuts lc (hC.keep HB6.out)
  have ec : Dk.D.crash ⟨N, kp, [(j, Dk.pad b)], [], -1⟩ cuts = ⟨N, Dk.lay kp (j, Dk.pad b) (Dk.cutAt cuts 0), [], [], -1⟩ := rfl
  rw [ec] at hCr
  refine hCr.mono ?_
  rintro e w7 ⟨rfl, hse7, hb7, hx7⟩
  have HB7 := Lib.hid (HB6.out.trans hb7)
  have HX7 := Lib.hid (HX6.out.trans (hx7.sub (fun x hx => List.mem_append_right _ hx)))
  have HG7 := Lib.hid (show w7.heap[g]? = some (.cells (cB (Dk.pad b)) 66 (0, 0)) from (hx7 g (by simp)).trans HSEEN.out)
  clear hCr hb7 hse6 hx7 ec
  go_wp2_with fail
  have hBy := bytes_sd hse7.sd
  obtain ⟨q, hq⟩ : ∃ q, q = Dk.cutAt cuts 0 := ⟨_, rfl⟩
  obtain ⟨kq, hkq⟩ : ∃ kq, kq = Dk.lay kp (j, Dk.pad b) q := ⟨_, rfl⟩
  dsimp only at hBy
  rw [← hq, ← hkq] at hBy
  have hq32 : q ≤ 32 := by
    rw [hq]
    unfold Dk.cutAt
    split
    · omega
    · omega
  have hpl : (Dk.pad b).length = 32 := Dk.pad_len b (by omega)
  have hkl : kp.length = 32 * N := HKL.out.trans HLL.out
  have HKQL := Lib.hid (show kq.length = L by rw [hkq, HLL.out]; exact Dk.lay_ok q hkl HG.out hpl)
  have HKQ : Hid (∀ x : Nat, kq[x]? = if 32 * j ≤ x ∧ x < 32 * j + q then (Dk.pad b)[x - 32 * j]? else kp[x]?) := Lib.hid (fun x => by rw [hkq]; exact Dk.lay_get (n := q) hkl HG.out hpl hq32 x)
  have HQ := Lib.hid hq
  clear hq hkq hkl
  refine hBy.mono ?_
  rintro e w8 ⟨⟨A8, c8, rfl, hown8⟩, hb8⟩
  obtain ⟨hse8, hx8⟩ := hse7.keep hb8
  have HB8 := Lib.hid (HB7.out.trans (hb8.mono HB7.out.size))
  have hpos : 0 < kq.length := by have := HG.out; have := HKQL.out; have := HLL.out; omega
  have hposp : 0 < kp.length := by have := HG.out; have := HKL.out; have := HLL.out; omega
  obtain ⟨g4, rfl, hl4, _, hc4⟩ := own_cell HOWN4.out hposp
  obtain ⟨g8, rfl, hl8, _, hc8⟩ := own_cell hown8 hpos
  have HWAS : Hid (∀ k (hk : k < kp.length), w8.cell? ⟨g4, k, none⟩ = some (B kp[k])) := Lib.hid (fun k hk => by
    have hm : g4 ∈ blkOf (some (⟨g4, 0, none⟩ : Addr)) := by simp [blkOf]
    rw [World.cell?_of_block (w := w7) (w' := w8) (a := ⟨g4, k, none⟩) (hx8 g4 (by simp [blkOf])), World.cell?_of_block (w := w4) (w' := w7) (a := ⟨g4, k, none⟩) (HX7.out g4 hm)]
    exact hc4 k hk)
  have HNOW := Lib.hid hc8
  have HL8 : Hid (g8 < w8.heap.size) := Lib.hid hl8
  have HL4 : Hid (g4 < w8.heap.size) := Lib.hid (by have h1 := hse8.sd; obtain ⟨a, _, _, _, _, hX⟩ := hse8; exact (hX g4 (by simp [blkOf])).1)
  have HG8 := Lib.hid (show w8.heap[g]? = some (.cells (cB (Dk.pad b)) 66 (0, 0)) from (hx8 g (by simp)).trans HG7.out)
  obtain ⟨hcap8, hmax8⟩ := own_cap hown8
  obtain ⟨hcap4, hmax4⟩ := own_cap HOWN4.out
  clear hBy hb8 hx8 hse7 hown8 hc4 hc8 hse8 HX5 HX6 HX7
  rw [HKQL.out] at hcap8 ⊢
  rw [HKL.out] at hcap4
  clear hpos hposp
  have HSB : Hid (BIn w8 (some ⟨g, 0, none⟩) (Dk.pad b)) := Lib.hid (cB_in HG8.out)
  go_wp2_with fail
  have hbI0 : (0 : Int) ≤ (b.length : Int) := by omega
  have hbI32 : (b.length : Int) ≤ 32 := by omega
  have hLeq : ((L : Int) != (L : Int)) = false := by simp
  have v1 : ∀ wx, Below w8.heap.size w8 wx → (convert 29 9 (.slice (some ⟨g, 0, none⟩) b.length 32)).run Try.prog wx = .ok (.string (S b)) wx := fun wx hx => bin_string wx _ b 32 (fun hn => ⟨g, 0, rfl, Nat.lt_of_lt_of_le (lt_of_blk' HG8.out) hx.size, fun k hk => by
    rw [hx.cell (p := ⟨g, 0 + k, none⟩) (lt_of_blk' HG8.out), Nat.zero_add, cell_of_row w8 g k _ _ _ HG8.out]
    have e : (cB (Dk.pad b))[k]? = some (B b[k]) := by
      unfold cB bcs Dk.pad
      rw [List.getElem?_toArray, List.getElem?_map, List.getElem?_append_left hk, List.getElem?_eq_getElem hk]
      rfl
    exact e⟩)
  have v2 : ∀ wx, Below w8.heap.size w8 wx → (convert 29 9 (.slice B' b.length cb)).run Try.prog wx = .ok (.string (S b)) wx := fun wx hx => bin_string wx _ b cb (((hB.keep HB8.out).keep (hx.mono HB8.out.size)).bin (Nat.le_trans HB8.out.size hx.size))
  have hE1 : ((S b).toList != (S b).toList) = false := by simp
  have r8 := Below.refl w8.heap.size w8
  go_region_held3 (fun wx => (convert 29 9 (.slice (some ⟨g, 0, none⟩) b.length 32)).run Try.prog wx = .ok (.string (S b)) wx ∧ (convert 29 9 (.slice B' b.length cb)).run Try.prog wx = .ok (.string (S b)) wx) (exact ⟨v1 _ r8.drew, v2 _ r8.drew⟩) (fail)
  clear v1 v2
  go_wp2_with fail
  go_loopw [18] (fun iv wr => ∃ k : Nat, k ≤ L ∧ iv = .int .i64 k ∧ Below w8.heap.size w8 wr) (fun iv _ => L - (intOf iv).toNat)
  case atStart => exact ⟨0, Nat.zero_le _, rfl, r8.drew⟩
  case round =>
    obtain ⟨k, hk, rfl, hbr⟩ := hrel
    have hk0 : (0 : Int) ≤ (k : Int) := by omega
    by_cases hlt : k < L
    · have hkI : (k : Int) < (L : Int) := by omega
      obtain ⟨kd, hkd⟩ : ∃ kd, kd = k / 32 := ⟨_, rfl⟩
      have hd1 : (k : Int) / 32 = (kd : Int) := by omega
      have hd2 : (k : Int).tdiv 32 = (kd : Int) := by rw [Int.tdiv_eq_ediv_of_nonneg (by omega)]; exact hd1
      by_cases hkj : kd = j
      · rw [hkj] at hd1 hd2
        clear hkd hkj
        go_wp2_with fail
        go_quiet (fail)
        go_wp2_with fail
        go_roundw
        case rel => exact ⟨k + 1, by omega, by go_num, below_drewN hbr _⟩
        case measure => simp [intOf]; omega
      · have e1 : ((kd : Int) != (j : Int)) = true := by simp; omega
        have e1a : ((kd : Int) == (j : Int)) = false := by simp; omega
        have e1b : (kd == j) = false := by simpa using hkj
        have e1c : (kd != j) = true := by simpa using hkj
        have hkq : k < kq.length := by have := HKQL.out; omega
        have hkp : k < kp.length := by have := HKL.out; omega
        have hsame : kq[k] = kp[k] := by
          have h1 := HKQ.out k
          rw [if_neg (by omega), List.getElem?_eq_getElem hkq, List.getElem?_eq_getElem hkp] at h1
          exact Option.some.inj h1
        have n1 : wr.cell? ⟨g8, k, none⟩ = some (B kp[k]) := by rw [hbr.cell (p := ⟨g8, k, none⟩) HL8.out, HNOW.out k hkq, hsame]
        have n2 : wr.cell? ⟨g4, k, none⟩ = some (B kp[k]) := by rw [hbr.cell (p := ⟨g4, k, none⟩) HL4.out, HWAS.out k hkp]
        obtain ⟨x, hx⟩ : ∃ x, x = kp[k].toNat := ⟨_, rfl⟩
        unfold B at n1 n2
        rw [← hx] at n1 n2
        have e2 : ((x : Int) != (x : Int)) = false := by simp
        clear hkd hkj hsame hx hkq hkp
        go_wp2_with fail
        go_quiet (fail)
        go_wp2_with fail
        go_roundw
        case rel => exact ⟨k + 1, by omega, by go_num, below_drewN hbr _⟩
        case measure => simp [intOf]; omega
    · have hkI : ¬ (k : Int) < (L : Int) := by omega
      have HBW := Lib.hid (HB8.out.trans (hbr.mono HB8.out.size))
      obtain ⟨j32, hj32⟩ : ∃ x, x = 32 * j := ⟨_, rfl⟩
      obtain ⟨j64, hj64⟩ : ∃ x, x = j32 + 32 := ⟨_, rfl⟩
      have hjL : j64 ≤ L := by have := HG.out; have := HLL.out; omega
      have m1 : (32 : Int) * (j : Int) = (j32 : Int) := by omega
      have m2 : (j32 : Int) + 32 = (j64 : Int) := by omega
      have m3 : IntKind.i64.wrap (j32 : Int) = (j32 : Int) := IntWalk.i64_in _ (by omega)
      have m4 : IntKind.i64.wrap (j64 : Int) = (j64 : Int) := IntWalk.i64_in _ (by omega)
      have m5 : (0 : Int) ≤ (j32 : Int) := by omega
      have m6 : (j32 : Int) ≤ (j64 : Int) := by omega
      have m7 : (j64 : Int) ≤ (c8 : Int) := by omega
      have m8 : ¬ c8 = j32 := by omega
      have m9 : j64 - j32 = 32 := by omega
      -- what the four texts hold
      have cells8 : ∀ x (hx : x < L), wr.cell? ⟨g8, x, none⟩ = some (B (kq[x]'(by have := HKQL.out; omega))) := fun x hx => by rw [hbr.cell (p := ⟨g8, x, none⟩) HL8.out]; exact HNOW.out x _
      have cells4 : ∀ x (hx : x < L), wr.cell? ⟨g4, x, none⟩ = some (B (kp[x]'(by have := HKL.out; omega))) := fun x hx => by rw [hbr.cell (p := ⟨g4, x, none⟩) HL4.out]; exact HWAS.out x _
      have conv1 : ∀ wx, Below wr.heap.size wr wx → ∀ c, (convert 29 9 (.slice (some ⟨g8, j32, none⟩) q c)).run Try.prog wx = .ok (.string (S ((Dk.pad b).take q))) wx := fun wx hx c => by
        have hlq : ((Dk.pad b).take q).length = q := by rw [List.length_take, hpl]; omega
        have := bin_string wx (some ⟨g8, j32, none⟩) ((Dk.pad b).take q) c (fun hn => ⟨g8, j32, rfl, Nat.lt_of_lt_of_le HL8.out (Nat.le_trans hbr.size hx.size), fun y hy => by
          have hyL : j32 + y < L := by omega
          have hkq : j32 + y < kq.length := by have := HKQL.out; omega
          have hyp : y < (Dk.pad b).length := by omega
          rw [hx.cell (p := ⟨g8, j32 + y, none⟩) (Nat.lt_of_lt_of_le HL8.out hbr.size), cells8 _ hyL]
          have h1 := HKQ.out (j32 + y)
          rw [if_pos (by omega), List.getElem?_eq_getElem hkq, show j32 + y - 32 * j = y by omega, List.getElem?_eq_getElem hyp] at h1
          rw [Option.some.inj h1, List.getElem_take]⟩)
        rw [hlq] at this
        exact this
      have conv2 : ∀ wx, Below wr.heap.size wr wx → ∀ c, (convert 29 9 (.slice (some ⟨g, 0, none⟩) q c)).run Try.prog wx = .ok (.string (S ((Dk.pad b).take q))) wx := fun wx hx c => by
        have hlq : ((Dk.pad b).take q).length = q := by rw [List.length_take, hpl]; omega
        have hgl := lt_of_blk' HG8.out
        have := bin_string wx (some ⟨g, 0, none⟩) ((Dk.pad b).take q) c (fun hn => ⟨g, 0, rfl, Nat.lt_of_lt_of_le hgl (Nat.le_trans hbr.size hx.size), fun y hy => by
          have hyp : y < (Dk.pad b).length := by omega
          rw [hx.cell (p := ⟨g, 0 + y, none⟩) (Nat.lt_of_lt_of_le hgl hbr.size), hbr.cell (p := ⟨g, 0 + y, none⟩) hgl, Nat.zero_add, cell_of_row w8 g y _ _ _ HG8.out]
          unfold cB bcs
          rw [List.getElem?_toArray, List.getElem?_map, List.getElem?_eq_getElem hyp, List.getElem_take]
          rfl⟩)
        rw [hlq] at this
        exact this
      obtain ⟨r, hr⟩ : ∃ r, r = 32 - q := ⟨_, rfl⟩
      obtain ⟨jq, hjq⟩ : ∃ x, x = j32 + q := ⟨_, rfl⟩
      have restl : ((kp.drop jq).take r).length = r := by have := HKL.out; rw [List.length_take, List.length_drop]; omega
      have restg : ∀ y (hy : y < r), ((kp.drop jq).take r)[y]'(by rw [restl]; exact hy) = kp[jq + y]'(by have := HKL.out; omega) := fun y hy => by rw [List.getElem_take, List.getElem_drop]
      have conv3 : ∀ wx, Below wr.heap.size wr wx → ∀ c, (convert 29 9 (.slice (some ⟨g8, jq, none⟩) r c)).run Try.prog wx = .ok (.string (S ((kp.drop jq).take r))) wx := fun wx hx c => by
        have := bin_string wx (some ⟨g8, jq, none⟩) ((kp.drop jq).take r) c (fun hn => ⟨g8, jq, rfl, Nat.lt_of_lt_of_le HL8.out (Nat.le_trans hbr.size hx.size), fun y hy => by
          rw [restl] at hy
          have hyL : jq + y < L := by omega
          have hkq : jq + y < kq.length := by have := HKQL.out; omega
          have hkp : jq + y < kp.length := by have := HKL.out; omega
          rw [hx.cell (p := ⟨g8, jq + y, none⟩) (Nat.lt_of_lt_of_le HL8.out hbr.size), cells8 _ hyL, restg y hy]
          have h1 := HKQ.out (jq + y)
          rw [if_neg (by omega), List.getElem?_eq_getElem hkq, List.getElem?_eq_getElem hkp] at h1
          rw [Option.some.inj h1]⟩)
        rw [restl] at this
        exact this
      have conv4 : ∀ wx, Below wr.heap.size wr wx → ∀ c, (convert 29 9 (.slice (some ⟨g4, jq, none⟩) r c)).run Try.prog wx = .ok (.string (S ((kp.drop jq).take r))) wx := fun wx hx c => by
        have := bin_string wx (some ⟨g4, jq, none⟩) ((kp.drop jq).take r) c (fun hn => ⟨g4, jq, rfl, Nat.lt_of_lt_of_le HL4.out (Nat.le_trans hbr.size hx.size), fun y hy => by
          rw [restl] at hy
          have hyL : jq + y < L := by omega
          rw [hx.cell (p := ⟨g4, jq + y, none⟩) (Nat.lt_of_lt_of_le HL4.out hbr.size), cells4 _ hyL, restg y hy]⟩)
        rw [restl] at this
        exact this
      have conv5 : ∀ wx ad c, (convert 29 9 (.slice (some ad) 0 c)).run Try.prog wx = .ok (.string (S [])) wx := fun wx ad c => bin_string wx (some ad) [] c (fun hn => absurd hn (by simp))
      have CV1 := Lib.hid conv1
      have CV2 := Lib.hid conv2
      have CV3 := Lib.hid conv3
      have CV4 := Lib.hid conv4
      have CV5 := Lib.hid conv5
      have q0 : (0 : Int) ≤ (q : Int) := by omega
      have q1 : (q : Int) ≤ 32 := by omega
      have HRR := Lib.hid hr
      have HJQ := Lib.hid hjq
      have HJ32 := Lib.hid hj32
      have HJ64 := Lib.hid hj64
      clear conv1 conv2 conv3 conv4 conv5 cells8 cells4 restg restl hr hjq hj32 hj64 hk hlt r8
      have hcC := hC.keep HBW.out
      clear hB hC
      have rr := Below.refl wr.heap.size wr
      cases hcu : cuts with
      | nil =>
        have hq0 : q = 0 := by rw [HQ.out, hcu]; rfl
        rw [List.length_nil]
        have HJ0 : Hid (jq = j32) := Lib.hid (by have := HJQ.out; omega)
        have HR0 : Hid (r = 32) := Lib.hid (by have := HRR.out; omega)
        have k3 : ∀ wx, Below wr.heap.size wr wx → ∀ c, (convert 29 9 (.slice (some ⟨g8, j32, none⟩) 32 c)).run Try.prog wx = .ok (.string (S ((kp.drop jq).take r))) wx := fun wx hx c => by
          have := CV3.out wx hx c
          rw [HR0.out, HJ0.out] at this ⊢
          exact this
        have k4 : ∀ wx, Below wr.heap.size wr wx → ∀ c, (convert 29 9 (.slice (some ⟨g4, j32, none⟩) 32 c)).run Try.prog wx = .ok (.string (S ((kp.drop jq).take r))) wx := fun wx hx c => by
          have := CV4.out wx hx c
          rw [HR0.out, HJ0.out] at this ⊢
          exact this
        have K3 := Lib.hid k3
        have K4 := Lib.hid k4
        have m10 : ¬ c4 = j32 := by omega
        have m11 : (j64 : Int) ≤ (c4 : Int) := by omega
        clear hq0 hcC k3 k4 hcu
        go_wp2_with fail
        go_region_held3 (fun wx => (∀ ad c, (convert 29 9 (.slice (some ad) 0 c)).run Try.prog wx = .ok (.string (S ([]))) wx) ∧ (∀ c, (convert 29 9 (.slice (some ⟨g8, j32, none⟩) 32 c)).run Try.prog wx = .ok (.string (S ((kp.drop jq).take r))) wx) ∧ (∀ c, (convert 29 9 (.slice (some ⟨g4, j32, none⟩) 32 c)).run Try.prog wx = .ok (.string (S ((kp.drop jq).take r))) wx)) (exact ⟨CV5.out _, K3.out _ rr.drew, K4.out _ rr.drew⟩) (fail)
        go_wp2
        go_ret
        exact ⟨rfl, HBW.out.drew⟩
      | cons x rest =>
        obtain ⟨bC, oC, rfl, hbC, hcell⟩ := hcC (by rw [hcu]; simp)
        have hc0 := hcell 0 (by rw [hcu]; simp)
        have e0 : cuts[0]'(by rw [hcu]; simp) = x := by simp [hcu]
        rw [e0, Nat.add_zero] at hc0
        have hqx : q = x.toNat % 33 := by
          rw [HQ.out]
          unfold Dk.cutAt
          rw [dif_pos (by rw [hcu]; simp), e0]
        obtain ⟨X, hX⟩ : ∃ X, X = x.toNat := ⟨_, rfl⟩
        have hX256 : X < 256 := by rw [hX]; exact x.toNat_lt
        unfold B at hc0
        rw [← hX] at hc0 hqx
        have x0 : (0 : Int) ≤ (X : Int) := by omega
        have x1 : (X : Int) < 256 := by omega
        have x2 : (X : Int) % 33 = (q : Int) := by omega
        have x3 : (X : Int).tmod 33 = (q : Int) := by rw [Int.tmod_eq_emod_of_nonneg x0]; exact x2
        have x4 : X % 33 = q := hqx.symm
        obtain ⟨lc1, hlc1⟩ : ∃ lc1, lc1 = (x :: rest).length := ⟨_, rfl⟩
        have hlcp : 0 < lc1 := by rw [hlc1]; simp
        have hlcI : (0 : Int) < (lc1 : Int) := by omega
        rw [← hlc1]
        have n1 : j32 + q = jq := HJQ.out.symm
        have n2 : (j32 : Int) + (q : Int) = (jq : Int) := by omega
        have n3 : IntKind.i64.wrap (jq : Int) = (jq : Int) := IntWalk.i64_in _ (by omega)
        have n4 : (0 : Int) ≤ (jq : Int) := by omega
        have n5 : (jq : Int) ≤ (j64 : Int) := by omega
        have n6 : (j64 : Int) ≤ (c4 : Int) := by omega
        have n7 : 32 - q = r := HRR.out.symm
        have n8 : j64 - jq = r := by omega
        have n9 : (q : Int) ≤ ((c8 - j32 : Nat) : Int) := by omega
        have n10 : q ≤ c8 - j32 := by omega
        clear hcell hcu e0 hqx hX hX256 hlc1 hbC
        by_cases hq : q = 32
        · have hr0 : r = 0 := by omega
          have hj : jq = j64 := by omega
          subst hr0
          subst hj
          by_cases hc8 : c8 - j32 = q
          · by_cases hc4 : c4 = jq
            · clear hq n8
              go_wp2_with fail
              go_region_held3 (fun wx => (∀ c, (convert 29 9 (.slice (some ⟨g8, j32, none⟩) q c)).run Try.prog wx = .ok (.string (S ((Dk.pad b).take q))) wx) ∧ (∀ c, (convert 29 9 (.slice (some ⟨g, 0, none⟩) q c)).run Try.prog wx = .ok (.string (S ((Dk.pad b).take q))) wx) ∧ (∀ ad c, (convert 29 9 (.slice (some ad) 0 c)).run Try.prog wx = .ok (.string (S ([]))) wx)) (exact ⟨CV1.out _ rr.drew, CV2.out _ rr.drew, CV5.out _⟩) (fail)
              go_wp2
              go_ret
              exact ⟨rfl, HBW.out.drew⟩
            · clear hq n8
              go_wp2_with fail
              go_region_held3 (fun wx => (∀ c, (convert 29 9 (.slice (some ⟨g8, j32, none⟩) q c)).run Try.prog wx = .ok (.string (S ((Dk.pad b).take q))) wx) ∧ (∀ c, (convert 29 9 (.slice (some ⟨g, 0, none⟩) q c)).run Try.prog wx = .ok (.string (S ((Dk.pad b).take q))) wx) ∧ (∀ ad c, (convert 29 9 (.slice (some ad) 0 c)).run Try.prog wx = .ok (.string (S ([]))) wx)) (exact ⟨CV1.out _ rr.drew, CV2.out _ rr.drew, CV5.out _⟩) (fail)
              go_wp2
              go_ret
              exact ⟨rfl, HBW.out.drew⟩
          · by_cases hc4 : c4 = jq
            · clear hq n8
              go_wp2_with fail
              go_region_held3 (fun wx => (∀ c, (convert 29 9 (.slice (some ⟨g8, j32, none⟩) q c)).run Try.prog wx = .ok (.string (S ((Dk.pad b).take q))) wx) ∧ (∀ c, (convert 29 9 (.slice (some ⟨g, 0, none⟩) q c)).run Try.prog wx = .ok (.string (S ((Dk.pad b).take q))) wx) ∧ (∀ ad c, (convert 29 9 (.slice (some ad) 0 c)).run Try.prog wx = .ok (.string (S ([]))) wx)) (exact ⟨CV1.out _ rr.drew, CV2.out _ rr.drew, CV5.out _⟩) (fail)
              go_wp2
              go_ret
              exact ⟨rfl, HBW.out.drew⟩
            · clear hq n8
              go_wp2_with fail
              go_region_held3 (fun wx => (∀ c, (convert 29 9 (.slice (some ⟨g8, j32, none⟩) q c)).run Try.prog wx = .ok (.string (S ((Dk.pad b).take q))) wx) ∧ (∀ c, (convert 29 9 (.slice (some ⟨g, 0, none⟩) q c)).run Try.prog wx = .ok (.string (S ((Dk.pad b).take q))) wx) ∧ (∀ ad c, (convert 29 9 (.slice (some ad) 0 c)).run Try.prog wx = .ok (.string (S ([]))) wx)) (exact ⟨CV1.out _ rr.drew, CV2.out _ rr.drew, CV5.out _⟩) (fail)
              go_wp2
              go_ret
              exact ⟨rfl, HBW.out.drew⟩
        · have hc8 : ¬ c8 - j32 = q := by omega
          have hc4 : ¬ c4 = jq := by omega
          clear hq
          go_wp2_with fail
          go_region_held3 (fun wx => (∀ c, (convert 29 9 (.slice (some ⟨g8, j32, none⟩) q c)).run Try.prog wx = .ok (.string (S ((Dk.pad b).take q))) wx) ∧ (∀ c, (convert 29 9 (.slice (some ⟨g, 0, none⟩) q c)).run Try.prog wx = .ok (.string (S ((Dk.pad b).take q))) wx) ∧ (∀ c, (convert 29 9 (.slice (some ⟨g8, jq, none⟩) r c)).run Try.prog wx = .ok (.string (S ((kp.drop jq).take r))) wx) ∧ (∀ c, (convert 29 9 (.slice (some ⟨g4, jq, none⟩) r c)).run Try.prog wx = .ok (.string (S ((kp.drop jq).take r))) wx)) (exact ⟨CV1.out _ rr.drew, CV2.out _ rr.drew, CV3.out _ rr.drew, CV4.out _ rr.drew⟩) (fail)
          go_wp2
          go_ret
          exact ⟨rfl, HBW.out.drew⟩
end Go.Proofs.Ytoaadallbpelbaa
