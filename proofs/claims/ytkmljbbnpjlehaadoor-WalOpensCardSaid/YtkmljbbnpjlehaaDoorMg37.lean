/- WalOpens. Condition: the table of sums reads as its text lays it. WalOpens, its arguments read. Condition: the table of sums reads as its text lays it. -/
import Derived.Test.YtkmljbbnpjlehaaDoorMg36
import Derived.Test.YtkmljbbnpjlehaaDoorMg33
import Derived.Test.YtkmljbbnpjlehaaDoorMg17
import Derived.Test.YtkmljbbnpjlehaaDoorMg01
namespace Go.Proofs.YtkmljbbnpjlehaaDoor
set_option maxRecDepth 8000
open Go.RowKit

/-- Numbers of 32 bits in memory. -/
def UC (w : World) (bd : Nat) (A : Option Addr) (l : List Nat) : Prop :=
  0 < l.length → ∃ b off, A = some ⟨b, off, none⟩ ∧ b < bd ∧ ∀ k (h : k < l.length), w.cell? ⟨b, off + k, none⟩ = some (.int .u32 (l[k] : Int)) ∧ l[k] < 4294967296
/-- The bytes that are written to: whatever they are. -/
def CRel (b0 n : Nat) (A : Option Addr) (c : Nat) (w0 w : World) : Prop := ∃ x : List UInt8, x.length = n ∧ w.ownsRow b0 5 1 (.slice A n c) n (x.map B) ∧ Below b0 w0 w
theorem openK_used {n : Nat} {kept : List UInt8} {l : Wl.L} (hk : kept.length = 32 * n) (h : Wl.openK n kept = .ok l) : 4 ≤ n ∧ l.fr.length ≤ Wl.areaBytes n := by
  unfold Wl.openK at h
  split at h
  · cases h
  · next h4 =>
    have hl := Wl.seenTo_lt n kept 2
    rw [Wl.seenTo_two] at hl
    dsimp only at h
    split at h
    · injection h with h
      subst h
      refine ⟨by omega, ?_⟩
      show (Wl.bytesAt n kept _ _).length ≤ _
      rw [bytesAt_len hk (by omega) hl.2.1 hl.2.2]
      exact hl.2.2
    · cases h

set_option maxHeartbeats 6400000 in
theorem walOpens_any (A A1 A4 : Option Addr) (c0 c1 c4 n n1 n4 us : Nat) (b : List UInt8) (gs : List Nat) (ar : Bool) (l : List (List UInt8)) (w : World) (hH : Hs w) (hz : 0 < w.heap.size) (hn : b.length = n) (hb : BCells w w.heap.size A b) (_hc0 : n ≤ c0) (_hm0 : c0 ≤ 9223372036854775807)
    (hn1 : gs.length = n1) (hg : UC w w.heap.size A1 gs) (hg9 : n1 ≤ 9223372036854775807) (hus : us < 65536) (hn4 : l.length = n4) (hl : LC w w.heap.size A4 l) (hc4 : n4 ≤ c4) (hm4 : c4 ≤ 9223372036854775807) (hq : ∀ b ∈ l, b.length ≤ 9223372036854775807) :
    Calls Tryd.prog 4 #[.slice A n c0, .slice A1 n1 c1, .int .u16 (us : Int), .bool ar, .slice A4 n4 c4] w fun e w' => e = .returned (.bool true) ∧ Below w.heap.size w w' := by
  have HN := Lib.hid hn
  have HN1 := Lib.hid hn1
  have HN4 := Lib.hid hn4
  have HQ := Lib.hid hq
  have HAW := Lib.hid (awake10_any w hH hz)
  obtain ⟨few, hfew⟩ : ∃ q, q = Fr.few l := ⟨_, rfl⟩
  have HFEW := Lib.hid hfew
  have HH := Lib.hid hH
  have HL := Lib.hid hl
  have HB := Lib.hid hb
  have HG := Lib.hid hg
  clear hn hn1 hn4 hq hfew hH hz hl hb hg
  go_enter Tryd.func4, Tryd.ntmps4
  go_wp2_with fail
  refine HAW.out.mono ?_
  rintro _ w1 ⟨rfl, hb1⟩
  have HB1 := Lib.hid hb1
  have HFW := Lib.hid (refFew_any A4 c4 n4 l w1 HN4.out (HL.out.next hb1) (by omega) HQ.out)
  rw [← HFEW.out] at HFW
  clear HAW hb1
  go_wp2_with fail
  refine HFW.out.mono ?_
  rintro _ w' ⟨rfl, rfl⟩
  clear HFW
  cases few with
  | false =>
    go_wp2_with fail
    go_ret
    exact ⟨rfl, HB1.out⟩
  | true =>
    by_cases h1 : 1000 < n
    · have i1 : (1000 : Int) < (n : Int) := by omega
      go_wp2_with fail
      go_ret
      exact ⟨rfl, HB1.out⟩
    have i1 : ¬ (1000 : Int) < (n : Int) := by omega
    by_cases h2 : 2 < n1
    · have i2 : (2 : Int) < (n1 : Int) := by omega
      go_wp2_with fail
      go_ret
      exact ⟨rfl, HB1.out⟩
    have i2 : ¬ (2 : Int) < (n1 : Int) := by omega
    have hrow0 : Row w1.heap.size (w1.alloc (.cells #[] 5)) (.slice (some ⟨w1.heap.size, 0, none⟩) 0 0) [] := row_none w1 w1.heap.size (Nat.le_refl _) w1.heap.size rfl
    have hba : Below w1.heap.size w1 (w1.alloc (.cells #[] 5)) := (Below.refl _ _).alloc (Nat.le_refl _) _
    have HBC : Hid (BC (w1.alloc (.cells #[] 5)) A b) := Lib.hid ((HB.out.next HB1.out).next hba).bc
    have HBA := Lib.hid hba
    have HROW0 := Lib.hid hrow0
    clear hba hrow0
    go_upto_region 7 with (at_builtin; refine wpList_append_bytes ?hw1 (.tmp 43) (.tmp 44) rfl w1.heap.size (.slice (some ⟨w1.heap.size, 0, none⟩) 0 0) A c0 n [] b rfl HN.out rfl HROW0.out HBC.out (by rw [HN.out]; simp; omega) HBA.out.size ?_; rotate_right; intro v2 w2 hown2 hgrow2)
    rw [List.nil_append] at hown2
    have hb2 : Below w1.heap.size w1 w2 := HBA.out.grown hgrow2 HBA.out.size (fun k hk => Nat.le_of_eq (by simpa [Value.ownBlock] using hk))
    obtain ⟨A2, c2, rfl, _⟩ := hown2.form
    have hc2 : n ≤ c2 ∧ c2 ≤ 9223372036854775807 ∧ (A2 = none → c2 = 0) := by
      rcases hown2.2 with ⟨hv, h0⟩ | ⟨g, cap, cur, hv, _, _, h3, h4, _⟩
      · injection hv with e1 e2 e3
        have := HN.out
        subst e3
        exact ⟨by omega, by omega, fun _ => rfl⟩
      · injection hv with e1 e2 e3
        have := HN.out
        unfold maxLen at h4
        subst e3
        exact ⟨by omega, by omega, fun h => by rw [e1] at h; cases h⟩
    have HC0 : Hid (CRel w1.heap.size n A2 c2 w1 w2) := Lib.hid ⟨b, HN.out, by have h := hown2; unfold Row at h; rw [HN.out] at h; exact h, hb2⟩
    have HC2 := Lib.hid hc2
    rw [HN.out]
    clear hown2 hgrow2 hb2 hc2 HBC HBA HROW0
    go_cut [46] (fun t wx => t = .bool ar ∧ wx = w2)
    case first =>
      go_wp2_with fail
      go_meet
      exact ⟨rfl, rfl⟩
    case rest =>
    obtain ⟨hx1, hx2⟩ := hcut
    subst hx1
    replace hx2 := hx2.symm
    subst hx2
    go_upto_if 46 with fail
    go_cut [14] (fun v wx => (∃ wh : Nat, wh ≤ 1 ∧ v = .int .i64 (wh : Int)) ∧ wx = w2)
    case first =>
      cases ar with
      | true =>
        go_wp2_with fail
        go_meet
        exact ⟨⟨1, Nat.le_refl _, rfl⟩, rfl⟩
      | false =>
        go_wp2_with fail
        go_meet
        exact ⟨⟨0, Nat.zero_le _, rfl⟩, rfl⟩
    case rest =>
    obtain ⟨⟨wh, hwh, hcw⟩, hcx⟩ := hcut
    subst hcw
    replace hcx := hcx.symm
    subst hcx
    go_wp2_with fail
    go_loopw [15] (fun iv wr => ∃ i : Nat, i ≤ n1 ∧ iv = .int .i64 (i : Int) ∧ CRel w1.heap.size n A2 c2 w1 wr) (fun iv _ => n1 - (intOf iv).toNat)
    case atStart => exact ⟨0, Nat.zero_le _, rfl, HC0.out⟩
    case round =>
      obtain ⟨i, hi, rfl, hcr⟩ := hrel
      have HCR := Lib.hid hcr
      have w32 : IntKind.i64.wrap (32 * (i : Int)) = 32 * (i : Int) := IntWalk.i64_in _ (by omega)
      have w40 : IntKind.i64.wrap (32 * (i : Int) + 8) = 32 * (i : Int) + 8 := IntWalk.i64_in _ (by omega)
      clear hcr
      go_upto_region 10 with fail
      go_cut [58] (fun t wx => t = .bool (decide (i < n1 ∧ 32 * i + 8 ≤ n)) ∧ wx = wr)
      case first =>
        by_cases hlt : i < n1
        · have hlI : (i : Int) < (n1 : Int) := by omega
          by_cases h8 : 32 * i + 8 ≤ n
          · have h8I : 32 * (i : Int) + 8 ≤ (n : Int) := by omega
            go_wp2_with fail
            go_meet
            exact ⟨by rw [decide_eq_true (⟨hlt, h8⟩ : i < n1 ∧ 32 * i + 8 ≤ n)], rfl⟩
          · have h8I : ¬ 32 * (i : Int) + 8 ≤ (n : Int) := by omega
            go_wp2_with fail
            go_meet
            exact ⟨by rw [decide_eq_false (fun h : i < n1 ∧ 32 * i + 8 ≤ n => h8 h.2)], rfl⟩
        · have hlI : ¬ (i : Int) < (n1 : Int) := by omega
          go_wp2_with fail
          go_meet
          exact ⟨by rw [decide_eq_false (fun h : i < n1 ∧ 32 * i + 8 ≤ n => hlt h.1)], rfl⟩
      case rest =>
      obtain ⟨hc1, hc9⟩ := hcut
      subst hc1
      replace hc9 := hc9.symm
      subst hc9
      by_cases hgo : i < n1 ∧ 32 * i + 8 ≤ n
      · rw [decide_eq_true hgo]
        obtain ⟨hlt, h8⟩ := hgo
        obtain ⟨x, hxl, hown, hb⟩ := HCR.out
        obtain ⟨g0, cap0, hv0, hg0, hg0l⟩ := World.ownsRow.form hown (by omega)
        injection hv0 with hA2 _ hcc
        subst hA2
        subst hcc
        have hlg : i < gs.length := by have := HN1.out; omega
        obtain ⟨bb, off, hA1, hbb, hcg⟩ := HG.out (by omega)
        subst hA1
        obtain ⟨cg0, hv32⟩ := hcg i hlg
        obtain ⟨v, hv⟩ : ∃ v, v = gs[i] := ⟨_, rfl⟩
        rw [← hv] at cg0 hv32
        have cg : wr.cell? ⟨bb, off + i, none⟩ = some (.int .u32 (v : Int)) := ((HB1.out.trans (hb.mono HB1.out.size)).cell (p := ⟨bb, off + i, none⟩) hbb).trans cg0
        have k0 : (0 : Int) ≤ (i : Int) := by omega
        have k1 : (i : Int) < (n1 : Int) := by omega
        have HHD := Lib.hid (by
          have e := refHead_any wr (v % 262144) wh (us % 8192) (by omega) hwh (by omega)
          rw [show ((v % 262144 : Nat) : Int) = (v : Int) % 262144 by omega, show ((us % 8192 : Nat) : Int) = (us : Int) % 8192 by omega] at e
          exact e : Calls Tryd.prog 26 #[.int .i64 ((v : Int) % 262144), .int .i64 (wh : Int), .int .i64 ((us : Int) % 8192)] wr (OwnPost wr 8 (Wl.head (v % 262144) wh (us % 8192))))
        obtain ⟨hd, hhd⟩ : ∃ hd, hd = Wl.head (v % 262144) wh (us % 8192) := ⟨_, rfl⟩
        have hd8 : hd.length = 8 := by rw [hhd]; rfl
        rw [← hhd] at HHD
        have HOW := Lib.hid (And.intro hxl (And.intro hown hb))
        have HD8 := Lib.hid hd8
        clear hxl hown hb hv hhd hlg hcg cg0 hd8
        go_wp2_with fail
        refine HHD.out.mono ?_
        rintro _ w3 ⟨Ah, ch, rfl, hrowh, hb3⟩
        obtain ⟨bh, oh, hAh, hbhl, hch⟩ := (row_cells (c := ch) (by unfold Row; rw [HD8.out]; have h := hrowh; unfold Row at h; rw [HD8.out] at h; exact h) : BCells w3 w3.heap.size Ah hd) (by have := HD8.out; omega)
        subst hAh
        have hbhg := (World.ownsRow.lt hrowh bh rfl).1
        have HBH : Hid (bh ≠ g0) := Lib.hid (by omega)
        have HST : Hid (∃ y : List UInt8, y.length = n ∧ w3.ownsRow w1.heap.size 5 1 (.slice (some ⟨g0, 0, none⟩) n c2) n (y.map B) ∧ Below w1.heap.size w1 w3 ∧ ∀ j (h : j < hd.length), w3.cell? ⟨bh, oh + j, none⟩ = some (B hd[j])) := Lib.hid ⟨x, HOW.out.1, own_below HOW.out.2.1 hb3, HOW.out.2.2.trans (hb3.mono (Nat.le_trans hg0 (Nat.le_of_lt hg0l))), hch⟩
        clear hrowh hb3 hch HHD
        go_wp2_with fail
        go_loopw [17] (fun kv wx => ∃ k : Nat, k ≤ 8 ∧ kv = .int .i64 (k : Int) ∧ ∃ y : List UInt8, y.length = n ∧ wx.ownsRow w1.heap.size 5 1 (.slice (some ⟨g0, 0, none⟩) n c2) n (y.map B) ∧ Below w1.heap.size w1 wx ∧ ∀ j (h : j < hd.length), wx.cell? ⟨bh, oh + j, none⟩ = some (B hd[j])) (fun kv _ => 8 - (intOf kv).toNat)
        case atStart => exact ⟨0, by omega, rfl, HST.out⟩
        case round =>
          obtain ⟨k, hk, rfl, y, hyl, hown, hb, hch⟩ := hrel
          by_cases hk8 : k < 8
          · have hkI : (k : Int) < 8 := by omega
            have hk0 : (0 : Int) ≤ (k : Int) := by omega
            have hkd : k < hd.length := by have := HD8.out; omega
            have ch := hch k hkd
            obtain ⟨p, hp⟩ : ∃ p, p = 32 * i + k := ⟨_, rfl⟩
            have hpn : p < n := by omega
            have wp : IntKind.i64.wrap (32 * (i : Int) + (k : Int)) = (p : Int) := by rw [show 32 * (i : Int) + (k : Int) = (p : Int) by omega]; exact IntWalk.i64_in _ (by omega)
            have hp0 : (0 : Int) ≤ (p : Int) := by omega
            have hpI : (p : Int) < (n : Int) := by omega
            have cp : wr.cell? ⟨g0, p, none⟩ = some (B y[p]) := by
              have h := hown.cells (g := g0) rfl p (B y[p]) (by rw [List.getElem?_map, List.getElem?_eq_getElem (by omega)]; rfl)
              rwa [Addr.add_mid, Nat.zero_add] at h
            have fp := hown.frozenAt p
            rw [B] at ch cp
            have HNW := Lib.hid (hown.stored p (B hd[k])).1
            have hq8 := hd[k].toNat_lt
            have HBQ : Hid (B hd[k] = .int .u8 (hd[k].toNat : Int)) := Lib.hid rfl
            obtain ⟨q, hqe⟩ : ∃ q, q = hd[k].toNat := ⟨_, rfl⟩
            rw [← hqe] at ch hq8 HBQ
            have HCH := Lib.hid hch
            have HB9 := Lib.hid hb
            have HYL := Lib.hid hyl
            have HSTP : Hid (∃ y2 : List UInt8, y2.length = n ∧ (wr.setCell ⟨g0, p, none⟩ (.int .u8 (q : Int))).ownsRow w1.heap.size 5 1 (.slice (some ⟨g0, 0, none⟩) n c2) n (y2.map B) ∧ Below w1.heap.size w1 (wr.setCell ⟨g0, p, none⟩ (.int .u8 (q : Int))) ∧ ∀ j (h : j < hd.length), (wr.setCell ⟨g0, p, none⟩ (.int .u8 (q : Int))).cell? ⟨bh, oh + j, none⟩ = some (B hd[j])) := Lib.hid ⟨y.set p hd[k], by rw [List.length_set]; exact HYL.out, by rw [← HBQ.out, List.map_set]; exact HNW.out, HB9.out.setCell (p := ⟨g0, p, none⟩) hg0 _, fun j hj => (World.cell?_of_block (heap_setCell_other wr ⟨g0, p, none⟩ bh _ HBH.out)).trans (HCH.out j hj)⟩
            clear hown hb hch hp hqe HNW
            go_wp2_with fail
            go_roundw
            case rel => exact ⟨k + 1, by omega, by go_num, HSTP.out⟩
            case measure => simp [intOf]; omega
          · have hkI : ¬ (k : Int) < 8 := by omega
            have HFIN : Hid (CRel w1.heap.size n (some ⟨g0, 0, none⟩) c2 w1 wr) := Lib.hid ⟨y, hyl, hown, hb⟩
            clear hown hb hch hyl
            go_wp2_with fail
            go_roundw
            case rel => exact ⟨i + 1, by omega, by go_num, HFIN.out⟩
            case measure => simp [intOf]; omega
      · rw [decide_eq_false hgo]
        clear hgo w32 w40 hi
        have HBE : Hid (Below w1.heap.size w1 wr) := Lib.hid (by obtain ⟨x, _, _, h⟩ := HCR.out; exact h)
        have HALL := Lib.hid (refAll_any A4 c4 n4 l wr HN4.out (HL.out.next (HB1.out.trans (HBE.out.mono HB1.out.size))) (Nat.le_trans (Fr.okTotal_few HFEW.out.symm) (by decide)) HQ.out (by omega))
        go_wp2_with fail
        refine HALL.out.mono ?_
        intro e w3 hput
        obtain ⟨Af, cf, f, k9, rfl, hbf, hfl, hfg, hb3⟩ : ∃ (Af : Option Addr) (cf : Nat) (f : List UInt8) (k9 : Int), e = .returned (.tuple #[.slice Af f.length cf, .int .i64 k9]) ∧ BCells w3 w3.heap.size Af f ∧ f.length ≤ 9223372036854775807 ∧ (∀ ad, Af = some ad → 0 < f.length → wr.heap.size ≤ ad.block) ∧ Below wr.heap.size wr w3 := by
          obtain ⟨h1, h2⟩ := hput
          cases hal : Fr.all l with
          | error k =>
            rw [hal] at h2
            exact ⟨none, 0, [], k, h2, fun h => absurd h (by simp), by simp, (fun ad h5 => by cases h5), h1⟩
          | ok f =>
            rw [hal] at h2
            obtain ⟨Af, cf, h3, h4⟩ := h2
            refine ⟨Af, cf, f, 0, h3, row_cells h4, ?_, fun ad h5 _ => by subst h5; exact (World.ownsRow.lt h4 ad.block rfl).1, h1⟩
            rcases h4.2 with ⟨_, h0⟩ | ⟨g, cap, cur, hv, _, _, h6, h7, _⟩
            · omega
            · unfold maxLen at h7
              omega
        obtain ⟨nf, hnf⟩ : ∃ nf, nf = f.length := ⟨_, rfl⟩
        rw [← hnf] at hfl ⊢
        have HC3 : Hid (CRel w1.heap.size n A2 c2 w1 w3) := Lib.hid (by
          obtain ⟨x, h1, h2, h3⟩ := HCR.out
          exact ⟨x, h1, own_below h2 hb3, h3.trans (hb3.mono h3.size)⟩)
        have HNF := Lib.hid hnf
        have HFB := Lib.hid hbf
        have HFG := Lib.hid hfg
        have HW1 : Hid (w1.heap.size ≤ wr.heap.size) := Lib.hid HBE.out.size
        have HG0 : Hid (∀ g0, A2 = some ⟨g0, 0, none⟩ → g0 < wr.heap.size) := Lib.hid (fun g0 e => by
          obtain ⟨x, _, h2, _⟩ := HCR.out
          rw [e] at h2
          exact (World.ownsRow.lt h2 g0 rfl).2)
        clear hput hbf hfg hnf hb3 HALL HCR
        go_wp2_with fail
        go_loopw [20] (fun kv wx => ∃ k : Nat, k ≤ n ∧ kv = .int .i64 (k : Int) ∧ CRel w1.heap.size n A2 c2 w1 wx ∧ w3.heap.size ≤ wx.heap.size ∧ ∀ j (h : j < f.length), ∀ b5 o5, Af = some ⟨b5, o5, none⟩ → wx.cell? ⟨b5, o5 + j, none⟩ = some (B f[j])) (fun kv _ => n - (intOf kv).toNat)
        case atStart => exact ⟨0, Nat.zero_le _, rfl, HC3.out, Nat.le_refl _, fun j hj b5 o5 e5 => by
          obtain ⟨b6, o6, e6, _, h6⟩ := HFB.out (by omega)
          rw [e5] at e6
          injection e6 with e6
          injection e6 with e7 e8
          subst e7 e8
          exact h6 j hj⟩
        case round =>
          obtain ⟨k, hk, rfl, hcr, hsz, hcf⟩ := hrel
          have HCR := Lib.hid hcr
          have HCF := Lib.hid hcf
          have w64 : IntKind.i64.wrap (64 + (k : Int)) = 64 + (k : Int) := IntWalk.i64_in _ (by omega)
          clear hcr hcf
          go_upto_region 19 with fail
          go_cut [101] (fun t wx => t = .bool (decide (k < nf ∧ 64 + k < n)) ∧ wx = wr)
          case first =>
            by_cases hlt : k < nf
            · have hlI : (k : Int) < (nf : Int) := by omega
              by_cases h8 : 64 + k < n
              · have h8I : 64 + (k : Int) < (n : Int) := by omega
                go_wp2_with fail
                go_meet
                exact ⟨by rw [decide_eq_true (⟨hlt, h8⟩ : k < nf ∧ 64 + k < n)], rfl⟩
              · have h8I : ¬ 64 + (k : Int) < (n : Int) := by omega
                go_wp2_with fail
                go_meet
                exact ⟨by rw [decide_eq_false (fun h : k < nf ∧ 64 + k < n => h8 h.2)], rfl⟩
            · have hlI : ¬ (k : Int) < (nf : Int) := by omega
              go_wp2_with fail
              go_meet
              exact ⟨by rw [decide_eq_false (fun h : k < nf ∧ 64 + k < n => hlt h.1)], rfl⟩
          case rest =>
          obtain ⟨hc1, hc9⟩ := hcut
          subst hc1
          replace hc9 := hc9.symm
          subst hc9
          by_cases hgo : k < nf ∧ 64 + k < n
          · rw [decide_eq_true hgo]
            obtain ⟨hlt, h8⟩ := hgo
            obtain ⟨y, hyl, hown, hb⟩ := HCR.out
            obtain ⟨g0, cap0, hv0, hg0, hg0l⟩ := World.ownsRow.form hown (by omega)
            injection hv0 with hA2 _ hcc
            have hgw := HG0.out g0 hA2
            subst hA2
            subst hcc
            obtain ⟨b5, o5, hAf, _, _⟩ := HFB.out (by have := HNF.out; omega)
            have hb5 := HFG.out _ hAf (by have := HNF.out; omega)
            have hkd : k < f.length := by have := HNF.out; omega
            have ch := HCF.out k hkd b5 o5 hAf
            have HBH : Hid (b5 ≠ g0) := Lib.hid (by
              have h9 : _ ≤ b5 := hb5
              omega)
            have hkI : (k : Int) < (nf : Int) := by omega
            have hk0 : (0 : Int) ≤ (k : Int) := by omega
            obtain ⟨p, hp⟩ : ∃ p, p = 64 + k := ⟨_, rfl⟩
            have hpn : p < n := by omega
            have wp : IntKind.i64.wrap (64 + (k : Int)) = (p : Int) := by rw [show 64 + (k : Int) = (p : Int) by omega]; exact IntWalk.i64_in _ (by omega)
            have hp0 : (0 : Int) ≤ (p : Int) := by omega
            have hpI : (p : Int) < (n : Int) := by omega
            clear hp
            have hpy : p < y.length := by rw [hyl]; exact hpn
            have cp : wr.cell? ⟨g0, p, none⟩ = some (B (y[p]'hpy)) := by
              have h := hown.cells (g := g0) rfl p (B (y[p]'hpy)) (by rw [List.getElem?_map, List.getElem?_eq_getElem hpy]; rfl)
              rwa [Addr.add_mid, Nat.zero_add] at h
            have fp := hown.frozenAt p
            rw [B] at ch cp
            have HNW := Lib.hid (hown.stored p (B f[k])).1
            have hq8 := f[k].toNat_lt
            have HBQ : Hid (B f[k] = .int .u8 (f[k].toNat : Int)) := Lib.hid rfl
            obtain ⟨q, hqe⟩ : ∃ q, q = f[k].toNat := ⟨_, rfl⟩
            rw [← hqe] at ch hq8 HBQ
            have HB9 := Lib.hid hb
            have HYL := Lib.hid hyl
            have HSTP : Hid (CRel w1.heap.size n (some ⟨g0, 0, none⟩) c2 w1 (wr.setCell ⟨g0, p, none⟩ (.int .u8 (q : Int))) ∧ w3.heap.size ≤ (wr.setCell ⟨g0, p, none⟩ (.int .u8 (q : Int))).heap.size ∧ ∀ j (h : j < f.length), ∀ b6 o6, Af = some ⟨b6, o6, none⟩ → (wr.setCell ⟨g0, p, none⟩ (.int .u8 (q : Int))).cell? ⟨b6, o6 + j, none⟩ = some (B f[j])) := Lib.hid ⟨⟨y.set p f[k], by rw [List.length_set]; exact HYL.out, by rw [← HBQ.out, List.map_set]; exact HNW.out, HB9.out.setCell (p := ⟨g0, p, none⟩) hg0 _⟩, by rw [World.size_setCell]; exact hsz, fun j hj b6 o6 e6 => by
              have e7 : b6 = b5 := by rw [hAf] at e6; injection e6 with e6; injection e6 with e6; exact e6.symm
              subst e7
              exact (World.cell?_of_block (heap_setCell_other wr ⟨g0, p, none⟩ b6 _ HBH.out)).trans (HCF.out j hj b6 o6 e6)⟩
            subst hAf
            clear hown hb hqe HNW w64 hgw hb5
            go_wp2_with fail
            go_roundw
            case rel => exact ⟨k + 1, by omega, by go_num, HSTP.out.1, HSTP.out.2.1, HSTP.out.2.2⟩
            case measure => simp [intOf]; omega
          · rw [decide_eq_false hgo]
            clear hgo w64 hk HCF hsz
            obtain ⟨x, hxl, hown, hb⟩ := HCR.out
            have hBI : BIn wr A2 x := (row_cells (c := c2) (by unfold Row; rw [hxl]; exact hown) : BCells wr wr.heap.size A2 x)
            have HDO := Lib.hid (open_any wr A2 c2 x hBI (by rw [hxl]; exact HC2.out.1) HC2.out.2.1)
            have HRO := Lib.hid (fun (wx : World) (hx : Below wr.heap.size wr wx) => ref_open_any wx A2 c2 x ((show BCells wr wr.heap.size A2 x from hBI).next hx) (by rw [hxl]; exact HC2.out.1) HC2.out.2.1 HC2.out.2.2)
            rw [hxl] at HDO HRO
            have HBW := Lib.hid (HB1.out.trans (hb.mono HB1.out.size))
            obtain ⟨d, hd⟩ : ∃ d, d = Dk.opened x := ⟨_, rfl⟩
            have HST : Hid (d.st = []) := Lib.hid (by rw [hd]; rfl)
            rw [← hd] at HDO HRO
            clear hxl hown hb hBI hd HCR
            go_wp2_with fail
            refine HDO.out.mono ?_
            intro e w4 hmade
            obtain ⟨P, rfl, hsd, hb4⟩ := hmade.sd
            have HRO2 := Lib.hid (HRO.out w4 hb4)
            have HSD := Lib.hid hsd
            have HB4 := Lib.hid hb4
            clear hmade hsd hb4 HDO HRO
            go_wp2_with fail
            refine HRO2.out.mono ?_
            rintro e w5 ⟨rb, rfl, hra, hrt, hb5, _⟩
            have HSD5 := Lib.hid (HSD.out.keep hb5)
            have HB5 := Lib.hid (HB4.out.trans (hb5.mono HB4.out.size))
            have HRA := Lib.hid (And.intro hra hrt)
            have HHW := Lib.hid (HH.out.next HBW.out)
            have HWO := Lib.hid (walOpen_any w5 P d (HHW.out.next HB5.out) (HSD5.out.base (Nat.zero_le _)) HST.out)
            clear hra hrt hb5 HRO2 HSD HB4
            go_wp2_with fail
            refine HWO.out.mono ?_
            intro e w6 hop
            have hb6 := hop.1
            have hra6 := HRA.out.1.same (w' := w6) (fun y hy => hb6.block y (HRA.out.2.all y hy))
            have hrt6 := HRA.out.2.more hb6.size
            have HB6 := Lib.hid (HB5.out.trans (hb6.mono HB5.out.size))
            have HRF := Lib.hid (refOpen_any w6 rb d hra6 hrt6 HST.out)
            have HRA6 := Lib.hid (And.intro hra6 hrt6)
            have HSD6 := Lib.hid (HSD5.out.keep hb6)
            clear hra6 hrt6 hb6 HWO HRA
            have HKL : Hid (d.kept.length = 32 * d.n) := Lib.hid HSD6.out.ok.kept
            cases hok : Wl.openK d.n d.kept with
            | error k9 =>
              rw [hok] at hop HRF
              have he := hop.2
              dsimp only at he
              subst he
              clear hop hok
              go_wp2_with fail
              refine HRF.out.mono ?_
              rintro e w7 ⟨hb7, he⟩
              dsimp only at he
              subst he
              have HB7 := Lib.hid (HB6.out.trans (hb7.mono HB6.out.size))
              have hra7 := HRA6.out.1.same (w' := w7) (fun y hy => hb7.block y (HRA6.out.2.all y hy))
              have hrt7 := HRA6.out.2.more hb7.size
              have hsd7 := HSD6.out.keep hb7
              obtain ⟨kl, hkl⟩ : ∃ kl, kl = d.kept.length := ⟨_, rfl⟩
              have HK : Hid (∀ wx, Below w7.heap.size w7 wx → wx.cell? ⟨rb.P, 0, none⟩ = some (.slice rb.K kl rb.cK) ∧ Below w7.heap.size w7 wx) := Lib.hid (fun wx hx => by
                have e2 := (hx.block _ (hrt7.all rb.P (by simp [Rm.F]))).trans hra7.disk
                rw [hkl]
                exact ⟨cell_of_row wx rb.P 0 _ _ _ e2, hx⟩)
              have HBYT : Hid (∀ wx, Below w7.heap.size w7 wx → Calls Tryd.prog 31 #[.pointer (some ⟨P, 0, none⟩)] wx (fun e w' => ∃ A3 c3 base, e = .returned (.slice A3 kl c3) ∧ w'.ownsRow base 5 1 (.slice A3 kl c3) kl (bcs d.kept) ∧ Below wx.heap.size wx w')) := Lib.hid (fun wx hx => by
                refine (bytes_sd (hsd7.keep hx)).mono ?_
                rintro _ w3 ⟨⟨A3, c3, rfl, hown3⟩, hb3⟩
                exact ⟨A3, c3, _, by rw [hkl], by rw [hkl]; exact hown3, hb3⟩)
              have HSM := Lib.hid (fun (wx : World) (A3 : Option Addr) (c3 base : Nat) (hx : Below w7.heap.size w7 wx) (hown3 : wx.ownsRow base 5 1 (.slice A3 d.kept.length c3) d.kept.length (bcs d.kept)) => (by
                have e := same_any wx A3 rb.K d.kept d.kept c3 rb.cK (own_in hown3) (own_in (hra7.same (w' := wx) (fun x hx' => hx.block x (hrt7.all x hx'))).kept)
                rw [decide_eq_true rfl] at e
                exact e : Calls Tryd.prog 30 #[.slice A3 d.kept.length c3, .slice rb.K d.kept.length rb.cK] wx fun e w' => e = .returned (.bool true) ∧ wx = w'))
              rw [← hkl] at HSM
              clear hb7 HRF hra7 hrt7 hsd7 hkl
              have hbd : Below w7.heap.size w7 w7.drew := (Below.refl _ _).drew
              go_upto_region 30 with fail
              refine wp_region_held_drew (S := fun wx => wx.cell? ⟨rb.P, 0, none⟩ = some (.slice rb.K kl rb.cK) ∧ Below w7.heap.size w7 wx) (by kernel_rfl) (HK.out _ hbd) (fun hHeld => ?_)
              refine wpAnyH_take (i := 0) (oi := ⟨some 138, _, _, _, _, _⟩) (v := ?_) rfl (by kernel_rfl) (by kernel_rfl) (by kernel_rfl) (fun _ _ _ h => h) (Or.inl ⟨by rfl, ?_⟩) (by assumption) ?_
              rotate_left
              · intro w hSw
                (try dsimp only at hSw)
                (try go_split_ands)
                go_simp
                with_reducible rfl
              try simp only [Act.put, List.setIfInBounds_toArray, List.set_cons_zero, List.set_cons_succ]
              refine wpAnyH_take (i := 1) (oi := ⟨some 139, _, _, _, _, _⟩) (v := ?_) rfl (by kernel_rfl) (by kernel_rfl) (by kernel_rfl) (fun _ _ _ h => h) (Or.inl ⟨by rfl, ?_⟩) (by assumption) ?_
              rotate_left
              · intro w hSw
                (try dsimp only at hSw)
                (try go_split_ands)
                go_simp
                with_reducible rfl
              try simp only [Act.put, List.setIfInBounds_toArray, List.set_cons_zero, List.set_cons_succ]
              refine wpAnyH_take (i := 2) (oi := ⟨some 140, _, _, _, _, _⟩) (v := ?_) rfl (by kernel_rfl) (by kernel_rfl) (by kernel_rfl) (fun _ _ _ h => h) (Or.inl ⟨by rfl, ?_⟩) (by assumption) ?_
              rotate_left
              · intro w hSw
                (try dsimp only at hSw)
                (try go_split_ands)
                go_simp
                with_reducible rfl
              try simp only [Act.put, List.setIfInBounds_toArray, List.set_cons_zero, List.set_cons_succ]
              refine wpAnyH_take (i := 3) (oi := ⟨some 141, _, _, _, _, _⟩) (v := ?_) rfl (by kernel_rfl) (by kernel_rfl) (by kernel_rfl) (fun _ _ _ h => h) (Or.inl ⟨by rfl, ?_⟩) (by assumption) ?_
              rotate_left
              · intro w hSw
                (try dsimp only at hSw)
                (try go_split_ands)
                go_simp
                with_reducible rfl
              try simp only [Act.put, List.setIfInBounds_toArray, List.set_cons_zero, List.set_cons_succ]
              refine wpAnyH_take (i := 4) (oi := ⟨some 142, _, _, _, _, _⟩) (v := ?_) rfl (by kernel_rfl) (by kernel_rfl) (by kernel_rfl) (fun _ _ _ h => h) (Or.inl ⟨by rfl, ?_⟩) (by assumption) ?_
              rotate_left
              · intro w hSw
                (try dsimp only at hSw)
                (try go_split_ands)
                go_simp
                with_reducible rfl
              try simp only [Act.put, List.setIfInBounds_toArray, List.set_cons_zero, List.set_cons_succ]
              refine wpAnyH_take (i := 5) (oi := ⟨some 143, _, _, _, _, _⟩) (v := undef) rfl (by kernel_rfl) (by kernel_rfl) (by kernel_rfl) (fun _ _ _ h => h) (Or.inr ⟨by rfl, rfl⟩) (by assumption) ?_
              try simp only [Act.put, List.setIfInBounds_toArray, List.set_cons_zero, List.set_cons_succ]
              refine wpAnyH_take (i := 6) (oi := ⟨some 144, _, _, _, _, _⟩) (v := undef) rfl (by kernel_rfl) (by kernel_rfl) (by kernel_rfl) (fun _ _ _ h => h) (Or.inr ⟨by rfl, rfl⟩) (by assumption) ?_
              try simp only [Act.put, List.setIfInBounds_toArray, List.set_cons_zero, List.set_cons_succ]
              refine wpAnyH_take (i := 7) (oi := ⟨some 145, _, _, _, _, _⟩) (v := undef) rfl (by kernel_rfl) (by kernel_rfl) (by kernel_rfl) (fun _ _ _ h => h) (Or.inr ⟨by rfl, rfl⟩) (by assumption) ?_
              try simp only [Act.put, List.setIfInBounds_toArray, List.set_cons_zero, List.set_cons_succ]
              refine wpAnyH_ready (rs := [8]) (by kernel_rfl) (by simp) ?_
              refine AllReadyH.cons (o := ⟨some 146, _, _, _, _, _⟩) rfl (fun K hK => ?_) AllReadyH.nil
              rw [if_neg (by simp [Region.wanted, yielded])]
              refine hK.out _ _ ?_ (fun hHeld => ?_)
              · exact HK.out _ hbd
              clear hK K
              try simp only [Act.put, List.setIfInBounds_toArray, List.set_cons_zero, List.set_cons_succ]
              refine wpAnyH_take (i := 9) (oi := ⟨some 147, _, _, _, _, _⟩) (v := ?_) rfl (by kernel_rfl) (by kernel_rfl) (by kernel_rfl) (fun _ _ _ h => h) (Or.inl ⟨by rfl, ?_⟩) (by assumption) ?_
              rotate_left
              · intro w hSw
                (try dsimp only at hSw)
                (try go_split_ands)
                go_simp
                with_reducible rfl
              try simp only [Act.put, List.setIfInBounds_toArray, List.set_cons_zero, List.set_cons_succ]
              refine wpAnyH_take (i := 10) (oi := ⟨some 148, _, _, _, _, _⟩) (v := ?_) rfl (by kernel_rfl) (by kernel_rfl) (by kernel_rfl) (fun _ _ _ h => h) (Or.inl ⟨by rfl, ?_⟩) (by assumption) ?_
              rotate_left
              · intro w hSw
                (try dsimp only at hSw)
                (try go_split_ands)
                go_simp
                with_reducible rfl
              try simp only [Act.put, List.setIfInBounds_toArray, List.set_cons_zero, List.set_cons_succ]
              refine wpAnyH_take (i := 11) (oi := ⟨some 149, _, _, _, _, _⟩) (v := ?_) rfl (by kernel_rfl) (by kernel_rfl) (by kernel_rfl) (fun _ _ _ h => h) (Or.inl ⟨by rfl, ?_⟩) (by assumption) ?_
              rotate_left
              · intro w hSw
                (try dsimp only at hSw)
                (try go_split_ands)
                go_simp
                with_reducible rfl
              try simp only [Act.put, List.setIfInBounds_toArray, List.set_cons_zero, List.set_cons_succ]
              refine wpAnyH_take (i := 12) (oi := ⟨some 150, _, _, _, _, _⟩) (v := ?_) rfl (by kernel_rfl) (by kernel_rfl) (by kernel_rfl) (fun _ _ _ h => h) (Or.inl ⟨by rfl, ?_⟩) (by assumption) ?_
              rotate_left
              · intro w hSw
                (try dsimp only at hSw)
                (try go_split_ands)
                go_simp
                with_reducible rfl
              try simp only [Act.put, List.setIfInBounds_toArray, List.set_cons_zero, List.set_cons_succ]
              refine wpAnyH_take (i := 14) (oi := ⟨some 152, _, _, _, _, _⟩) (v := ?_) rfl (by kernel_rfl) (by kernel_rfl) (by kernel_rfl) (fun _ _ _ h => h) (Or.inl ⟨by rfl, ?_⟩) (by assumption) ?_
              rotate_left
              · intro w hSw
                (try dsimp only at hSw)
                (try go_split_ands)
                go_simp
                with_reducible rfl
              try simp only [Act.put, List.setIfInBounds_toArray, List.set_cons_zero, List.set_cons_succ]
              refine wpAnyH_take (i := 15) (oi := ⟨some 153, _, _, _, _, _⟩) (v := ?_) rfl (by kernel_rfl) (by kernel_rfl) (by kernel_rfl) (fun _ _ _ h => h) (Or.inl ⟨by rfl, ?_⟩) (by assumption) ?_
              rotate_left
              · intro w hSw
                (try dsimp only at hSw)
                (try go_split_ands)
                go_simp
                with_reducible rfl
              try simp only [Act.put, List.setIfInBounds_toArray, List.set_cons_zero, List.set_cons_succ]
              refine wpAnyH_take (i := 16) (oi := ⟨some 154, _, _, _, _, _⟩) (v := ?_) rfl (by kernel_rfl) (by kernel_rfl) (by kernel_rfl) (fun _ _ _ h => h) (Or.inl ⟨by rfl, ?_⟩) (by assumption) ?_
              rotate_left
              · intro w hSw
                (try dsimp only at hSw)
                (try go_split_ands)
                go_simp
                with_reducible rfl
              try simp only [Act.put, List.setIfInBounds_toArray, List.set_cons_zero, List.set_cons_succ]
              refine wpAnyH_take (i := 17) (oi := ⟨some 155, _, _, _, _, _⟩) (v := ?_) rfl (by kernel_rfl) (by kernel_rfl) (by kernel_rfl) (fun _ _ _ h => h) (Or.inl ⟨by rfl, ?_⟩) (by assumption) ?_
              rotate_left
              · intro w hSw
                (try dsimp only at hSw)
                (try go_split_ands)
                go_simp
                with_reducible rfl
              try simp only [Act.put, List.setIfInBounds_toArray, List.set_cons_zero, List.set_cons_succ]
              refine wpAnyH_ready (rs := [13]) (by kernel_rfl) (by simp) ?_
              refine AllReadyH.cons (o := ⟨some 151, _, _, _, _, _⟩) rfl (fun K hK => ?_) AllReadyH.nil
              go_simp
              go_at_call 31
              refine (HBYT.out _ hbd).mono ?_
              rintro _ w9 ⟨A3, c3, base, rfl, hown3, hb9⟩
              have hq9 := hbd.trans (hb9.mono hbd.size)
              refine hK.out _ _ ?_ (fun hHeld => ?_)
              · exact HK.out _ hq9
              clear hK K
              try simp only [Act.put, List.setIfInBounds_toArray, List.set_cons_zero, List.set_cons_succ]
              refine wpAnyH_ready (rs := [18]) (by kernel_rfl) (by simp) ?_
              refine AllReadyH.cons (o := ⟨some 156, _, _, _, _, _⟩) rfl (fun K hK => ?_) AllReadyH.nil
              go_simp
              go_at_call 30
              refine (HSM.out _ _ _ _ hq9 hown3).mono ?_
              rintro _ w10 ⟨rfl, rfl⟩
              refine hK.out _ _ ?_ (fun hHeld => ?_)
              · exact HK.out _ hq9
              clear hK K
              try simp only [Act.put, List.setIfInBounds_toArray, List.set_cons_zero, List.set_cons_succ]
              refine wpAnyH_take (i := 19) (oi := ⟨some 157, _, _, _, _, _⟩) (v := ?_) rfl (by kernel_rfl) (by kernel_rfl) (by kernel_rfl) (fun _ _ _ h => h) (Or.inl ⟨by rfl, ?_⟩) (by assumption) ?_
              rotate_left
              · intro w hSw
                (try dsimp only at hSw)
                (try go_split_ands)
                go_simp
                with_reducible rfl
              try simp only [Act.put, List.setIfInBounds_toArray, List.set_cons_zero, List.set_cons_succ]
              refine wpAnyH_take (i := 20) (oi := ⟨some 10, _, _, _, _, _⟩) (v := ?_) rfl (by kernel_rfl) (by kernel_rfl) (by kernel_rfl) (fun _ _ _ h => h) (Or.inl ⟨by rfl, ?_⟩) (by assumption) ?_
              rotate_left
              · intro w hSw
                (try dsimp only at hSw)
                (try go_split_ands)
                go_simp
                with_reducible rfl
              try simp only [Act.put, List.setIfInBounds_toArray, List.set_cons_zero, List.set_cons_succ]
              refine wpAnyH_done (by kernel_rfl) ?_ _
              go_wp2_with fail
              go_ret
              exact ⟨rfl, HBW.out.trans ((HB7.out.trans (hq9.mono HB7.out.size)).mono HBW.out.size)⟩
            | ok lg =>
              rw [hok] at HRF hop
              obtain ⟨L, rfl, hsy, _⟩ := sy_new HSD5.out HB5.out hop
              obtain ⟨hn4, hfr⟩ := openK_used HKL.out hok
              clear hop hok
              go_wp2_with fail
              refine HRF.out.mono ?_
              rintro e w7 ⟨hb7, he⟩
              dsimp only at he
              obtain ⟨LR, A7, m7, c7, cs7, rfl, _, hg7, hlr7⟩ := he
              have HB7 := Lib.hid (HB6.out.trans (hb7.mono HB6.out.size))
              have hra7 := HRA6.out.1.same (w' := w7) (fun y hy => hb7.block y (HRA6.out.2.all y hy))
              have hrt7 := HRA6.out.2.more hb7.size
              have hsd7 := HSD6.out.keep hb7
              obtain ⟨kl, hkl⟩ : ∃ kl, kl = d.kept.length := ⟨_, rfl⟩
              have HK : Hid (∀ wx, Below w7.heap.size w7 wx → wx.cell? ⟨rb.P, 0, none⟩ = some (.slice rb.K kl rb.cK) ∧ Below w7.heap.size w7 wx) := Lib.hid (fun wx hx => by
                have e2 := (hx.block _ (hrt7.all rb.P (by simp [Rm.F]))).trans hra7.disk
                rw [hkl]
                exact ⟨cell_of_row wx rb.P 0 _ _ _ e2, hx⟩)
              have HBYT : Hid (∀ wx, Below w7.heap.size w7 wx → Calls Tryd.prog 31 #[.pointer (some ⟨P, 0, none⟩)] wx (fun e w' => ∃ A3 c3 base, e = .returned (.slice A3 kl c3) ∧ w'.ownsRow base 5 1 (.slice A3 kl c3) kl (bcs d.kept) ∧ Below wx.heap.size wx w')) := Lib.hid (fun wx hx => by
                refine (bytes_sd (hsd7.keep hx)).mono ?_
                rintro _ w3 ⟨⟨A3, c3, rfl, hown3⟩, hb3⟩
                exact ⟨A3, c3, _, by rw [hkl], by rw [hkl]; exact hown3, hb3⟩)
              have HSM := Lib.hid (fun (wx : World) (A3 : Option Addr) (c3 base : Nat) (hx : Below w7.heap.size w7 wx) (hown3 : wx.ownsRow base 5 1 (.slice A3 d.kept.length c3) d.kept.length (bcs d.kept)) => (by
                have e := same_any wx A3 rb.K d.kept d.kept c3 rb.cK (own_in hown3) (own_in (hra7.same (w' := wx) (fun x hx' => hx.block x (hrt7.all x hx'))).kept)
                rw [decide_eq_true rfl] at e
                exact e : Calls Tryd.prog 30 #[.slice A3 d.kept.length c3, .slice rb.K d.kept.length rb.cK] wx fun e w' => e = .returned (.bool true) ∧ wx = w'))
              rw [← hkl] at HSM
              have HSAME := Lib.hid (fun (wx : World) (hx : Below w7.heap.size w7 wx) => sameLog_any ((hsy.keep hb7).keep hx) ((HHW.out.next HB7.out).next hx) (hra7.same (w' := wx) (fun x hx' => hx.block x (hrt7.all x hx'))) (hrt7.more hx.size) ((hx.block _ (Array.getElem?_eq_some_iff.1 hg7).1).trans hg7) (hlr7.lc.next hx) hlr7.len.symm (by omega) hfr)
              clear hb7 HRF hra7 hrt7 hsd7 hkl hsy hn4 hfr hg7 hlr7
              have hbd : Below w7.heap.size w7 w7.drew := (Below.refl _ _).drew
              go_upto_region 30 with fail
              refine wp_region_held_drew (S := fun wx => wx.cell? ⟨rb.P, 0, none⟩ = some (.slice rb.K kl rb.cK) ∧ Below w7.heap.size w7 wx) (by kernel_rfl) (HK.out _ hbd) (fun hHeld => ?_)
              refine wpAnyH_take (i := 0) (oi := ⟨some 138, _, _, _, _, _⟩) (v := ?_) rfl (by kernel_rfl) (by kernel_rfl) (by kernel_rfl) (fun _ _ _ h => h) (Or.inl ⟨by rfl, ?_⟩) (by assumption) ?_
              rotate_left
              · intro w hSw
                (try dsimp only at hSw)
                (try go_split_ands)
                go_simp
                with_reducible rfl
              try simp only [Act.put, List.setIfInBounds_toArray, List.set_cons_zero, List.set_cons_succ]
              refine wpAnyH_take (i := 1) (oi := ⟨some 139, _, _, _, _, _⟩) (v := ?_) rfl (by kernel_rfl) (by kernel_rfl) (by kernel_rfl) (fun _ _ _ h => h) (Or.inl ⟨by rfl, ?_⟩) (by assumption) ?_
              rotate_left
              · intro w hSw
                (try dsimp only at hSw)
                (try go_split_ands)
                go_simp
                with_reducible rfl
              try simp only [Act.put, List.setIfInBounds_toArray, List.set_cons_zero, List.set_cons_succ]
              refine wpAnyH_take (i := 2) (oi := ⟨some 140, _, _, _, _, _⟩) (v := ?_) rfl (by kernel_rfl) (by kernel_rfl) (by kernel_rfl) (fun _ _ _ h => h) (Or.inl ⟨by rfl, ?_⟩) (by assumption) ?_
              rotate_left
              · intro w hSw
                (try dsimp only at hSw)
                (try go_split_ands)
                go_simp
                with_reducible rfl
              try simp only [Act.put, List.setIfInBounds_toArray, List.set_cons_zero, List.set_cons_succ]
              refine wpAnyH_take (i := 3) (oi := ⟨some 141, _, _, _, _, _⟩) (v := ?_) rfl (by kernel_rfl) (by kernel_rfl) (by kernel_rfl) (fun _ _ _ h => h) (Or.inl ⟨by rfl, ?_⟩) (by assumption) ?_
              rotate_left
              · intro w hSw
                (try dsimp only at hSw)
                (try go_split_ands)
                go_simp
                with_reducible rfl
              try simp only [Act.put, List.setIfInBounds_toArray, List.set_cons_zero, List.set_cons_succ]
              refine wpAnyH_take (i := 4) (oi := ⟨some 142, _, _, _, _, _⟩) (v := ?_) rfl (by kernel_rfl) (by kernel_rfl) (by kernel_rfl) (fun _ _ _ h => h) (Or.inl ⟨by rfl, ?_⟩) (by assumption) ?_
              rotate_left
              · intro w hSw
                (try dsimp only at hSw)
                (try go_split_ands)
                go_simp
                with_reducible rfl
              try simp only [Act.put, List.setIfInBounds_toArray, List.set_cons_zero, List.set_cons_succ]
              refine wpAnyH_take (i := 5) (oi := ⟨some 143, _, _, _, _, _⟩) (v := ?_) rfl (by kernel_rfl) (by kernel_rfl) (by kernel_rfl) (fun _ _ _ h => h) (Or.inl ⟨by rfl, ?_⟩) (by assumption) ?_
              rotate_left
              · intro w hSw
                (try dsimp only at hSw)
                (try go_split_ands)
                go_simp
                with_reducible rfl
              try simp only [Act.put, List.setIfInBounds_toArray, List.set_cons_zero, List.set_cons_succ]
              refine wpAnyH_take (i := 6) (oi := ⟨some 144, _, _, _, _, _⟩) (v := ?_) rfl (by kernel_rfl) (by kernel_rfl) (by kernel_rfl) (fun _ _ _ h => h) (Or.inl ⟨by rfl, ?_⟩) (by assumption) ?_
              rotate_left
              · intro w hSw
                (try dsimp only at hSw)
                (try go_split_ands)
                go_simp
                with_reducible rfl
              try simp only [Act.put, List.setIfInBounds_toArray, List.set_cons_zero, List.set_cons_succ]
              refine wpAnyH_take (i := 7) (oi := ⟨some 145, _, _, _, _, _⟩) (v := ?_) rfl (by kernel_rfl) (by kernel_rfl) (by kernel_rfl) (fun _ _ _ h => h) (Or.inl ⟨by rfl, ?_⟩) (by assumption) ?_
              rotate_left
              · intro w hSw
                (try dsimp only at hSw)
                (try go_split_ands)
                go_simp
                with_reducible rfl
              try simp only [Act.put, List.setIfInBounds_toArray, List.set_cons_zero, List.set_cons_succ]
              refine wpAnyH_ready (rs := [8]) (by kernel_rfl) (by simp) ?_
              refine AllReadyH.cons (o := ⟨some 146, _, _, _, _, _⟩) rfl (fun K hK => ?_) AllReadyH.nil
              go_simp
              go_at_call 24
              refine (HSAME.out _ hbd).mono ?_
              rintro _ w8 ⟨rfl, hb8⟩
              have hq8 := hbd.trans (hb8.mono hbd.size)
              refine hK.out _ _ ?_ (fun hHeld => ?_)
              · exact HK.out _ hq8
              clear hK K
              try simp only [Act.put, List.setIfInBounds_toArray, List.set_cons_zero, List.set_cons_succ]
              refine wpAnyH_take (i := 9) (oi := ⟨some 147, _, _, _, _, _⟩) (v := ?_) rfl (by kernel_rfl) (by kernel_rfl) (by kernel_rfl) (fun _ _ _ h => h) (Or.inl ⟨by rfl, ?_⟩) (by assumption) ?_
              rotate_left
              · intro w hSw
                (try dsimp only at hSw)
                (try go_split_ands)
                go_simp
                with_reducible rfl
              try simp only [Act.put, List.setIfInBounds_toArray, List.set_cons_zero, List.set_cons_succ]
              refine wpAnyH_take (i := 10) (oi := ⟨some 148, _, _, _, _, _⟩) (v := ?_) rfl (by kernel_rfl) (by kernel_rfl) (by kernel_rfl) (fun _ _ _ h => h) (Or.inl ⟨by rfl, ?_⟩) (by assumption) ?_
              rotate_left
              · intro w hSw
                (try dsimp only at hSw)
                (try go_split_ands)
                go_simp
                with_reducible rfl
              try simp only [Act.put, List.setIfInBounds_toArray, List.set_cons_zero, List.set_cons_succ]
              refine wpAnyH_take (i := 11) (oi := ⟨some 149, _, _, _, _, _⟩) (v := ?_) rfl (by kernel_rfl) (by kernel_rfl) (by kernel_rfl) (fun _ _ _ h => h) (Or.inl ⟨by rfl, ?_⟩) (by assumption) ?_
              rotate_left
              · intro w hSw
                (try dsimp only at hSw)
                (try go_split_ands)
                go_simp
                with_reducible rfl
              try simp only [Act.put, List.setIfInBounds_toArray, List.set_cons_zero, List.set_cons_succ]
              refine wpAnyH_take (i := 12) (oi := ⟨some 150, _, _, _, _, _⟩) (v := ?_) rfl (by kernel_rfl) (by kernel_rfl) (by kernel_rfl) (fun _ _ _ h => h) (Or.inl ⟨by rfl, ?_⟩) (by assumption) ?_
              rotate_left
              · intro w hSw
                (try dsimp only at hSw)
                (try go_split_ands)
                go_simp
                with_reducible rfl
              try simp only [Act.put, List.setIfInBounds_toArray, List.set_cons_zero, List.set_cons_succ]
              refine wpAnyH_take (i := 14) (oi := ⟨some 152, _, _, _, _, _⟩) (v := ?_) rfl (by kernel_rfl) (by kernel_rfl) (by kernel_rfl) (fun _ _ _ h => h) (Or.inl ⟨by rfl, ?_⟩) (by assumption) ?_
              rotate_left
              · intro w hSw
                (try dsimp only at hSw)
                (try go_split_ands)
                go_simp
                with_reducible rfl
              try simp only [Act.put, List.setIfInBounds_toArray, List.set_cons_zero, List.set_cons_succ]
              refine wpAnyH_take (i := 15) (oi := ⟨some 153, _, _, _, _, _⟩) (v := ?_) rfl (by kernel_rfl) (by kernel_rfl) (by kernel_rfl) (fun _ _ _ h => h) (Or.inl ⟨by rfl, ?_⟩) (by assumption) ?_
              rotate_left
              · intro w hSw
                (try dsimp only at hSw)
                (try go_split_ands)
                go_simp
                with_reducible rfl
              try simp only [Act.put, List.setIfInBounds_toArray, List.set_cons_zero, List.set_cons_succ]
              refine wpAnyH_take (i := 16) (oi := ⟨some 154, _, _, _, _, _⟩) (v := ?_) rfl (by kernel_rfl) (by kernel_rfl) (by kernel_rfl) (fun _ _ _ h => h) (Or.inl ⟨by rfl, ?_⟩) (by assumption) ?_
              rotate_left
              · intro w hSw
                (try dsimp only at hSw)
                (try go_split_ands)
                go_simp
                with_reducible rfl
              try simp only [Act.put, List.setIfInBounds_toArray, List.set_cons_zero, List.set_cons_succ]
              refine wpAnyH_take (i := 17) (oi := ⟨some 155, _, _, _, _, _⟩) (v := ?_) rfl (by kernel_rfl) (by kernel_rfl) (by kernel_rfl) (fun _ _ _ h => h) (Or.inl ⟨by rfl, ?_⟩) (by assumption) ?_
              rotate_left
              · intro w hSw
                (try dsimp only at hSw)
                (try go_split_ands)
                go_simp
                with_reducible rfl
              try simp only [Act.put, List.setIfInBounds_toArray, List.set_cons_zero, List.set_cons_succ]
              refine wpAnyH_ready (rs := [13]) (by kernel_rfl) (by simp) ?_
              refine AllReadyH.cons (o := ⟨some 151, _, _, _, _, _⟩) rfl (fun K hK => ?_) AllReadyH.nil
              go_simp
              go_at_call 31
              refine (HBYT.out _ hq8).mono ?_
              rintro _ w9 ⟨A3, c3, base, rfl, hown3, hb9⟩
              have hq9 := hq8.trans (hb9.mono hq8.size)
              refine hK.out _ _ ?_ (fun hHeld => ?_)
              · exact HK.out _ hq9
              clear hK K
              try simp only [Act.put, List.setIfInBounds_toArray, List.set_cons_zero, List.set_cons_succ]
              refine wpAnyH_ready (rs := [18]) (by kernel_rfl) (by simp) ?_
              refine AllReadyH.cons (o := ⟨some 156, _, _, _, _, _⟩) rfl (fun K hK => ?_) AllReadyH.nil
              go_simp
              go_at_call 30
              refine (HSM.out _ _ _ _ hq9 hown3).mono ?_
              rintro _ w10 ⟨rfl, rfl⟩
              refine hK.out _ _ ?_ (fun hHeld => ?_)
              · exact HK.out _ hq9
              clear hK K
              try simp only [Act.put, List.setIfInBounds_toArray, List.set_cons_zero, List.set_cons_succ]
              refine wpAnyH_take (i := 19) (oi := ⟨some 157, _, _, _, _, _⟩) (v := ?_) rfl (by kernel_rfl) (by kernel_rfl) (by kernel_rfl) (fun _ _ _ h => h) (Or.inl ⟨by rfl, ?_⟩) (by assumption) ?_
              rotate_left
              · intro w hSw
                (try dsimp only at hSw)
                (try go_split_ands)
                go_simp
                with_reducible rfl
              try simp only [Act.put, List.setIfInBounds_toArray, List.set_cons_zero, List.set_cons_succ]
              refine wpAnyH_take (i := 20) (oi := ⟨some 10, _, _, _, _, _⟩) (v := ?_) rfl (by kernel_rfl) (by kernel_rfl) (by kernel_rfl) (fun _ _ _ h => h) (Or.inl ⟨by rfl, ?_⟩) (by assumption) ?_
              rotate_left
              · intro w hSw
                (try dsimp only at hSw)
                (try go_split_ands)
                go_simp
                with_reducible rfl
              try simp only [Act.put, List.setIfInBounds_toArray, List.set_cons_zero, List.set_cons_succ]
              refine wpAnyH_done (by kernel_rfl) ?_ _
              go_wp2_with fail
              go_ret
              exact ⟨rfl, HBW.out.trans ((HB7.out.trans (hq9.mono HB7.out.size)).mono HBW.out.size)⟩
end Go.Proofs.YtkmljbbnpjlehaaDoor
namespace Go.Proofs.YtkmljbbnpjlehaaDoor
set_option maxRecDepth 8000
open Go.ChangeShapes Go.WideShapes Go.ChangeAt Go.WideMaps Go.WideElems Go.RowKit

theorem open_u32s {H : Type} {enc : TypeId × Value → H} {W : World} {base0 : Nat} {sp : Nat → Bool} {held : Bool} {fuel : Nat} {a0 : Option Addr} {len cap : Nat} {x : DataW H × List MemPlace}
    (hf : DataW.trod enc Tryd.prog W base0 sp held fuel 52 [.slice a0 len cap] = some x) :
    ∃ l : List Nat, l.length = len ∧ UC W W.heap.size a0 l ∧ len ≤ cap ∧ cap ≤ 9223372036854775807 := by
  rcases open_ints Tryd.underlying52 Tryd.underlying56 Tryd.cellsU32 hf with ⟨hcs, _⟩ | ⟨a, len', cap', zs, hcs, _, hlc, hcm, hzl, _, hx, hwf⟩
  · simp only [List.cons.injEq, Value.slice.injEq, and_true] at hcs
    obtain ⟨rfl, rfl, rfl⟩ := hcs
    exact ⟨[], rfl, fun h => absurd h (by simp), by omega, by omega⟩
  · simp only [List.cons.injEq, Value.slice.injEq, and_true] at hcs
    obtain ⟨rfl, rfl, rfl⟩ := hcs
    have hle : len ≤ zs.length := by rw [hzl]; split <;> omega
    refine ⟨(zs.take len).map fun z => z.toNat, by simp; omega, fun hn => ?_, hlc, by unfold maxLen at hcm; omega⟩
    have hn' : 0 < len := by simp at hn; omega
    obtain ⟨b, off, spot⟩ := a
    have hspot : spot = none := by simpa [Addr.add] using World.cell?_spot (hx 0 (by omega))
    subst hspot
    have hadd : ∀ j, (⟨b, off, none⟩ : Addr).add j = ⟨b, off + j, none⟩ := fun j => Addr.add_mid b off j
    refine ⟨b, off, rfl, ?_, fun k hk => ?_⟩
    · have := World.block_lt_of_cell? W _ (hx 0 (by omega))
      rw [hadd] at this
      exact this
    · have hk' : k < len := by simp at hk; omega
      have hkz : k < zs.length := by omega
      have h2 := hx k hkz
      rw [hadd] at h2
      rw [h2]
      have hg : zs.getD k 0 = zs[k] := by simp [List.getD, hkz]
      have hw := hwf zs[k] (List.getElem_mem hkz)
      rw [hg]
      simp only [List.getElem_map, List.getElem_take]
      have hr : 0 ≤ zs[k] ∧ zs[k] < 4294967296 := by
        have e1 : IntKind.u32.min = 0 := by decide
        have e2 : IntKind.u32.max = 4294967295 := by decide
        simp [Lit.wf] at hw
        omega
      have : ((zs[k].toNat : Nat) : Int) = zs[k] := by omega
      rw [this]
      exact ⟨rfl, by omega⟩
theorem walOpens_at (A A1 A4 : Option Addr) (c0 c1 c4 : Nat) (b : List UInt8) (gs : List Nat) (y : Int) (hy : (Lit.int .u16 y).wf = true) (ar : Bool) (l : List (List UInt8)) (w : World) (hH : Hs w) (hb : BCells w w.heap.size A b) (hc0 : b.length ≤ c0) (hm0 : c0 ≤ 9223372036854775807)
    (hg : UC w w.heap.size A1 gs) (hc1 : gs.length ≤ c1) (hm1 : c1 ≤ 9223372036854775807) (hl : LC w w.heap.size A4 l) (hc4 : l.length ≤ c4) (hm4 : c4 ≤ 9223372036854775807) (hq : ∀ b ∈ l, b.length ≤ 9223372036854775807) :
    Calls Tryd.prog 4 #[.slice A b.length c0, .slice A1 gs.length c1, .int .u16 y, .bool ar, .slice A4 l.length c4] w fun e w' => e = .returned (.bool true) ∧ Below w.heap.size w w' := by
  have e1 : IntKind.u16.min = 0 := by decide
  have e2 : IntKind.u16.max = 65535 := by decide
  simp [Lit.wf] at hy
  obtain ⟨us, rfl⟩ := Int.eq_ofNat_of_zero_le (show 0 ≤ y by omega)
  have hz : 0 < w.heap.size := World.block_lt_of_cell? w _ (hH.cell (k := 0) (by omega))
  exact walOpens_any A A1 A4 c0 c1 c4 _ _ _ us b gs ar l w hH hz rfl hb hc0 hm0 rfl hg (by omega) (by omega) rfl hl hc4 hm4 hq
end Go.Proofs.YtkmljbbnpjlehaaDoor
