/- What the document's own calls bit and More of sums do, for any sum and any bytes (at most 2^63 - 1 of them). What the document's own calls More and Of of sums do, for any sum and any bytes that came in (at most 2^63 - 1 of them). -/
import Derived.Test.YtkmljbbnpjlehaaDoorMg02
namespace Go.Proofs.YtkmljbbnpjlehaaDoor
set_option maxRecDepth 8000
open Go.RowKit

abbrev I (n : Nat) : Value := .int .i64 (n : Int)
/-- 32 cells, by a function. -/
def Fc (f : Nat → Nat) : Array Value := ((List.range 32).map fun i => I (f i)).toArray
def BF (w : World) (g : Nat) (f : Nat → Nat) : Prop := w.heap[g]? = some (.cells (Fc f) 3 (0, 0))
theorem BF.cell {w : World} {g : Nat} {f : Nat → Nat} (h : BF w g f) {k : Nat} (hk : k < 32) : w.cell? ⟨g, k, none⟩ = some (I (f k)) := by
  rw [cell_of_row w g k _ 3 (0, 0) h]
  simp [Fc, hk]
theorem BF.frozen {w : World} {g : Nat} {f : Nat → Nat} (h : BF w g f) (k : Nat) : w.frozen? ⟨g, k, none⟩ = false := by
  unfold BF at h
  simp [World.frozen?, h]
theorem BF.congr {w : World} {g : Nat} {f f' : Nat → Nat} (h : BF w g f) (hf : ∀ i, i < 32 → f i = f' i) : BF w g f' := by
  have e : Fc f = Fc f' := by
    unfold Fc
    congr 1
    apply List.map_congr_left
    intro i hi
    rw [hf i (by simpa using hi)]
  unfold BF at h ⊢
  rw [h, e]
theorem BF.set {w : World} {g : Nat} {f : Nat → Nat} (h : BF w g f) (k v : Nat) : BF (w.setCell ⟨g, k, none⟩ (I v)) g (fun i => if i = k then v else f i) := by
  have e : (Fc f).setIfInBounds k (I v) = Fc (fun i => if i = k then v else f i) := by
    apply Array.ext
    · simp [Fc]
    · intro i h1 h2
      rw [Array.getElem_setIfInBounds (by simpa using h1)]
      by_cases hik : k = i
      · rw [if_pos hik]; simp [Fc, hik]
      · have hik' : ¬ i = k := fun e => hik e.symm
        rw [if_neg hik]; simp [Fc, hik']
  unfold BF at h ⊢
  simp [World.setCell, Array.getElem?_modify, h, e]
theorem BF.drew {w : World} {g : Nat} {f : Nat → Nat} (h : BF w g f) : BF w.drew g f := h

def BitPost (W : World) (base g : Nat) (f : Nat → Nat) (e : Ending) (w' : World) : Prop := e = .returned (.tuple #[]) ∧ BF w' g f ∧ Below base W w'
def ShiftRel (W : World) (base g x : Nat) (i : Value) (wr : World) : Prop :=
  ∃ k : Nat, k ≤ 31 ∧ i = I k ∧ BF wr g (fun j => if j < k then Cr.bit x (j + 1) else Cr.bit x j) ∧ Below base W wr
def PolyRel (W : World) (base g x : Nat) (p i : Value) (wr : World) : Prop :=
  ∃ k : Nat, k ≤ 32 ∧ i = I k ∧ p = U (Cr.P / 2 ^ k) ∧ BF wr g (fun j => if j < k then (Cr.bit (x / 2) j + Cr.bit Cr.P j) % 2 else Cr.bit (x / 2) j) ∧ Below base W wr

set_option maxHeartbeats 1000000 in
theorem bit_any (W : World) (base g x b : Nat) (w : World) (hx : x < 4294967296) (hb1 : b ≤ 1) (hg : BF w g (Cr.bit x)) (hbase : base ≤ g) (hbl : Below base W w) :
    Calls Tryd.prog 122 #[.slice (some ⟨g, 0, none⟩) 32 32, I b] w (BitPost W base g (Cr.bit (Cr.st (x ^^^ b)))) := by
  obtain ⟨m, hm⟩ : ∃ m, m = x % 2 := ⟨_, rfl⟩
  have c0 : w.cell? ⟨g, 0, none⟩ = some (I m) := by rw [hm, ← Cr.bit_zero]; exact hg.cell (by decide)
  obtain ⟨s, hs⟩ : ∃ s, s = (m + b) % 2 := ⟨_, rfl⟩
  have r1 : IntKind.i64.wrap ((m : Int) + (b : Int)) = (m : Int) + (b : Int) := IntWalk.i64_in _ (by omega)
  have R2 : Hid (((m : Int) + (b : Int)) % 2 = (s : Int)) := Lib.hid (by omega)
  have hodd : Hid (s = 1 → ∀ i, Cr.bit (Cr.st (x ^^^ b)) i = (Cr.bit (x / 2) i + Cr.bit Cr.P i) % 2) := Lib.hid (fun h i => Cr.feed_odd hb1 (by rw [← hm, ← hs, h]) i)
  have heven : Hid (¬ s = 1 → ∀ i, Cr.bit (Cr.st (x ^^^ b)) i = Cr.bit (x / 2) i) := Lib.hid (fun h i => Cr.feed_even hb1 (by rw [← hm, ← hs]; exact h) i)
  have hm0 : m ≤ 1 := by omega
  clear hm hs
  go_enter Tryd.func122, Tryd.ntmps122
  go_wp2
  go_loopw [5] (fun i wr => ShiftRel W base g x i wr) (fun i _ => 31 - (intOf i).toNat)
  case atStart => exact ⟨0, by omega, rfl, hg.congr (fun i _ => by rw [if_neg (by omega)]), hbl⟩
  case round =>
    obtain ⟨k, hk, rfl, hf, hbr⟩ := hrel
    clear c0 hg hbl r1
    by_cases hlt : k < 31
    · obtain ⟨y, hy⟩ : ∃ y, y = Cr.bit x (k + 1) := ⟨_, rfl⟩
      have c1 : wr.cell? ⟨g, k + 1, none⟩ = some (I y) := by
        have := hf.cell (k := k + 1) (by omega)
        rw [if_neg (by omega), ← hy] at this
        exact this
      have c2 := hf.cell (k := k) (by omega)
      have ff := hf.frozen k
      have HN := Lib.hid (hf.set k y)
      have HY := Lib.hid hy
      have HB := Lib.hid hbr
      have r3 : IntKind.i64.wrap ((k : Int) + 1) = (k : Int) + 1 := IntWalk.i64_in _ (by omega)
      clear hf hy hbr
      go_wp2
      go_roundw
      case rel =>
        refine ⟨k + 1, by omega, by go_num, HN.out.congr (fun i _ => ?_), HB.out.setCell (p := ⟨g, k, none⟩) hbase _⟩
        by_cases h1 : i = k
        · subst h1; rw [if_pos rfl, if_pos (by omega)]; exact HY.out
        · rw [if_neg h1]
          by_cases h2 : i < k
          · rw [if_pos h2, if_pos (by omega)]
          · rw [if_neg h2, if_neg (by omega)]
      case measure => simp [intOf]; omega
    · obtain rfl : k = 31 := by omega
      have c1 := hf.cell (k := 31) (by decide)
      have ff := hf.frozen 31
      have HN : Hid (BF (wr.setCell ⟨g, 31, none⟩ (I 0)) g (Cr.bit (x / 2))) := Lib.hid ((hf.set 31 0).congr (fun i hi => by
        rw [Cr.bit_half]
        by_cases h1 : i = 31
        · subst h1; rw [if_pos rfl]; exact (Cr.bit_over hx).symm
        · rw [if_neg h1, if_pos (by omega)]))
      have HB : Hid (Below base W (wr.setCell ⟨g, 31, none⟩ (I 0))) := Lib.hid (hbr.setCell (p := ⟨g, 31, none⟩) hbase _)
      clear hf hbr
      by_cases h1 : s = 1
      · have HO := Lib.hid (hodd.out h1)
        have r3 : (((m : Int) + (b : Int)) % 2 == 1) = true := by rw [R2.out, h1]; rfl
        clear hodd heven h1
        go_wp2
        go_loopw [6, 7] (fun p i wr => PolyRel W base g x p i wr) (fun _ i _ => 32 - (intOf i).toNat)
        case atStart => exact ⟨0, by omega, rfl, rfl, HN.out.congr (fun i _ => by rw [if_neg (by omega)]), HB.out⟩
        case round =>
          obtain ⟨k, hk, rfl, rfl, hf, hbr⟩ := hrel
          clear HN HB c1 ff
          by_cases hlt : k < 32
          · obtain ⟨y, hy⟩ : ∃ y, y = Cr.bit (x / 2) k := ⟨_, rfl⟩
            obtain ⟨q, hq⟩ : ∃ q, q = Cr.P / 2 ^ k := ⟨_, rfl⟩
            obtain ⟨t, ht⟩ : ∃ t, t = q % 2 := ⟨_, rfl⟩
            obtain ⟨v, hv⟩ : ∃ v, v = (y + t) % 2 := ⟨_, rfl⟩
            have hyl : y ≤ 1 := by rw [hy]; exact Cr.bit_le _ _
            have hql : q < 4294967296 := by rw [hq]; exact Nat.lt_of_le_of_lt (Nat.div_le_self _ _) (by decide)
            have c1 : wr.cell? ⟨g, k, none⟩ = some (I y) := by
              have := hf.cell (k := k) hlt
              rw [if_neg (by omega), ← hy] at this
              exact this
            have ff := hf.frozen k
            have HN := Lib.hid (hf.set k v)
            have HV : Hid (v = (Cr.bit (x / 2) k + Cr.bit Cr.P k) % 2) := Lib.hid (by rw [hv, hy, ht, hq]; rfl)
            have HQ : Hid (q / 2 = Cr.P / 2 ^ (k + 1)) := Lib.hid (by rw [hq, Cr.half_pow])
            have HQI : Hid ((q : Int) / 2 = ((q / 2 : Nat) : Int)) := Lib.hid (by omega)
            have r3 : (q : Int) % 2 = (t : Int) := by omega
            have r4 : IntKind.i64.wrap (t : Int) = (t : Int) := IntWalk.i64_in _ (by omega)
            have r5 : IntKind.i64.wrap ((y : Int) + (t : Int)) = (y : Int) + (t : Int) := IntWalk.i64_in _ (by omega)
            have r6 : ((y : Int) + (t : Int)) % 2 = (v : Int) := by omega
            have htl : t ≤ 1 := by omega
            rw [← hq]
            have HB := Lib.hid hbr
            clear hf hbr hy hq ht hv
            go_wp2
            go_roundw
            case rel =>
              refine ⟨k + 1, by omega, by go_num, by rw [← HQ.out, HQI.out], HN.out.congr (fun i _ => ?_), HB.out.setCell (p := ⟨g, k, none⟩) hbase _⟩
              by_cases h1 : i = k
              · subst h1; rw [if_pos rfl, if_pos (by omega)]; exact HV.out
              · rw [if_neg h1]
                by_cases h2 : i < k
                · rw [if_pos h2, if_pos (by omega)]
                · rw [if_neg h2, if_neg (by omega)]
            case measure => simp [intOf]; omega
          · obtain rfl : k = 32 := by omega
            go_wp2
            go_end0
            exact ⟨rfl, hf.congr (fun i hi => by rw [if_pos hi, HO.out]), hbr⟩
      · have HE := Lib.hid (heven.out h1)
        have r3 : (((m : Int) + (b : Int)) % 2 == 1) = false := by rw [R2.out]; simp; omega
        clear hodd heven
        go_wp2
        go_end0
        exact ⟨rfl, HN.out.congr (fun i _ => by rw [HE.out]), HB.out⟩
end Go.Proofs.YtkmljbbnpjlehaaDoor
namespace Go.Proofs.YtkmljbbnpjlehaaDoor
set_option maxRecDepth 8000
open Go.RowKit

theorem Tryd.infoInt : (Tryd.prog.info? 3).map (fun i => (i.zero, i.size, i.bytes)) = some (some (.int .i64 0), 1, 8) := by kernel_rfl
theorem run_makeInts (w : World) : (Instr.makeSlice 169 (.int .i64 32) (.int .i64 32)).run Tryd.prog w = .ok (.slice (some ⟨w.heap.size, 0, none⟩) 32 32) (w.alloc (.cells (Fc fun _ => 0) 3)) := by
  obtain ⟨i0, hi0, hz0, hz1, hz2⟩ := info_parts Tryd.infoInt
  rw [run_make w 169 3 i0 (.int .i64 0) Tryd.underlying169 hi0 hz0 .i64 .i64 32 32 (by decide) (by decide) (by rw [hz2]; decide) (by decide), hz1]
  have e : madeCells (Value.int IntKind.i64 0).cells (Int.toNat 32 * 1) = Fc fun _ => 0 := by kernel_rfl
  rw [e]
  rfl

def InitRel (W : World) (g s : Nat) (q i : Value) (wr : World) : Prop :=
  ∃ k : Nat, k ≤ 32 ∧ i = I k ∧ q = U (s / 2 ^ k) ∧ BF wr g (fun j => if j < k then 1 - Cr.bit s j else 0) ∧ Below W.heap.size W wr
def BytesRel (W : World) (g x0 : Nat) (l : List UInt8) (i : Value) (wr : World) : Prop :=
  ∃ k : Nat, k ≤ l.length ∧ i = I k ∧ BF wr g (Cr.bit (Cr.go x0 (l.take k))) ∧ Below W.heap.size W wr
def BitsRel (W : World) (g y c0 : Nat) (c i : Value) (wr : World) : Prop :=
  ∃ k X : Nat, k ≤ 8 ∧ i = I k ∧ c = I (c0 / 2 ^ k) ∧ X < 4294967296 ∧ X ^^^ c0 / 2 ^ k = Cr.sts k (y ^^^ c0) ∧ BF wr g (Cr.bit X) ∧ Below W.heap.size W wr
def downV : Nat → Value
  | 0 => .int .i64 (-1)
  | j + 1 => I j
theorem downV_eq (j : Nat) : Value.int .i64 ((j : Int) - 1) = downV j := by
  cases j with
  | zero => rfl
  | succ j => show Value.int .i64 (((j + 1 : Nat) : Int) - 1) = Value.int .i64 (j : Int); congr 1; omega
def OutRel (y : Nat) (o i : Value) : Prop := ∃ j : Nat, j ≤ 32 ∧ i = downV j ∧ o = U (y / 2 ^ j)
def downNat : Value → Nat
  | .int _ n => (n + 1).toNat
  | _ => 0
theorem downNat_int (k : IntKind) (n : Int) : downNat (.int k n) = (n + 1).toNat := rfl

set_option maxHeartbeats 2000000 in
theorem refMore_any (s : Nat) (A : Option Addr) (l : List UInt8) (n cap : Nat) (w : World) (hn : l.length = n) (hs : s < 4294967296) (hl : n ≤ 9223372036854775807) (hb : BCells w w.heap.size A l) :
    Calls Tryd.prog 98 #[U s, .slice A n cap] w fun e w' => e = .returned (U (Cr.more s l)) ∧ Below w.heap.size w w' := by
  obtain ⟨x0, hx0⟩ : ∃ x, x = Cr.mx ^^^ s := ⟨_, rfl⟩
  have hx0l : x0 < 4294967296 := by rw [hx0]; exact Cr.mx_lt hs
  have HX0 := Lib.hid hx0
  have HN := Lib.hid hn
  clear hx0 hn
  go_enter Tryd.func98, Tryd.ntmps98
  go_wp2_with fail
  rw [run_makeInts]
  simp only [Result.andThen]
  rw [Oper.upon_value]
  obtain ⟨g, hg⟩ : ∃ g, g = w.heap.size := ⟨_, rfl⟩
  rw [← hg]
  have hbase : w.heap.size ≤ g := by omega
  obtain ⟨w1, hw1⟩ : ∃ w1, w1 = w.alloc (.cells (Fc fun _ => 0) 3) := ⟨_, rfl⟩
  rw [← hw1]
  have hf1 : BF w1 g (fun _ => 0) := by rw [hw1, hg]; exact heap_alloc_new w _
  have hb1 : Below w.heap.size w w1 := by rw [hw1]; exact (Below.refl _ _).alloc (Nat.le_refl _) _
  clear hw1 hg
  go_wp2
  go_loopw [0, 6] (fun q i wr => InitRel w g s q i wr) (fun _ i _ => 32 - (intOf i).toNat)
  case atStart => exact ⟨0, by omega, rfl, by rw [Nat.pow_zero, Nat.div_one], hf1.congr (fun i _ => by rw [if_neg (by omega)]), hb1⟩
  case round =>
    obtain ⟨k, hk, rfl, rfl, hf, hbr⟩ := hrel
    clear hf1 hb1
    by_cases hlt : k < 32
    · obtain ⟨q, hq⟩ : ∃ q, q = s / 2 ^ k := ⟨_, rfl⟩
      have hql : q < 4294967296 := by rw [hq]; exact Nat.lt_of_le_of_lt (Nat.div_le_self _ _) hs
      obtain ⟨t, ht⟩ : ∃ t, t = q % 2 := ⟨_, rfl⟩
      obtain ⟨v, hv⟩ : ∃ v, v = 1 - t := ⟨_, rfl⟩
      have c1 := hf.cell (k := k) hlt
      rw [if_neg (by omega)] at c1
      have ff := hf.frozen k
      have HN1 := Lib.hid (hf.set k v)
      have HV : Hid (v = 1 - Cr.bit s k) := Lib.hid (by rw [hv, ht, hq]; rfl)
      have HQ : Hid (q / 2 = s / 2 ^ (k + 1)) := Lib.hid (by rw [hq, Cr.half_pow])
      have HQI : Hid ((q : Int) / 2 = ((q / 2 : Nat) : Int)) := Lib.hid (by omega)
      have r3 : (q : Int) % 2 = (t : Int) := by omega
      have htl : t ≤ 1 := by omega
      have r4 : IntKind.i64.wrap (t : Int) = (t : Int) := IntWalk.i64_in _ (by omega)
      have r5 : IntKind.i64.wrap (1 - (t : Int)) = (v : Int) := by rw [IntWalk.i64_in _ (by omega)]; omega
      have r5' : (1 : Int) - (t : Int) = (v : Int) := by omega
      rw [← hq]
      have HB := Lib.hid hbr
      clear hf hbr hq ht hv
      go_wp2
      go_roundw
      case rel =>
        refine ⟨k + 1, by omega, by go_num, by rw [← HQ.out, HQI.out], HN1.out.congr (fun i _ => ?_), HB.out.setCell (p := ⟨g, k, none⟩) hbase _⟩
        by_cases h1 : i = k
        · subst h1; rw [if_pos rfl, if_pos (by omega)]; exact HV.out
        · rw [if_neg h1]
          by_cases h2 : i < k
          · rw [if_pos h2, if_pos (by omega)]
          · rw [if_neg h2, if_neg (by omega)]
      case measure => simp [intOf]; omega
    · have hf2 : BF wr g (Cr.bit x0) := hf.congr (fun i hi => by
        rw [if_pos (by omega), HX0.out, Cr.bit_mx s i hi])
      obtain ⟨q, hq⟩ : ∃ q, q = s / 2 ^ k := ⟨_, rfl⟩
      rw [← hq]
      clear hf hq
      go_wp2
      go_loopw [7] (fun i wr => BytesRel w g x0 l i wr) (fun i _ => n - (intOf i).toNat)
      case atStart => exact ⟨0, Nat.zero_le _, rfl, hf2, hbr⟩
      case round =>
        obtain ⟨k2, hk2, rfl, hf, hbr2⟩ := hrel
        clear hf2 hbr
        have hnl := HN.out
        obtain ⟨y, hy⟩ : ∃ y, y = Cr.go x0 (l.take k2) := ⟨_, rfl⟩
        have hyl : y < 4294967296 := by rw [hy]; exact Cr.go_lt _ hx0l
        rw [← hy] at hf
        by_cases hlt2 : k2 < n
        · obtain ⟨b, off, rfl, hlb, hcell⟩ := (hb.below hbr2) (by omega)
          have hlk : k2 < l.length := by omega
          have hc1 := hcell k2 hlk
          obtain ⟨c0, hc0⟩ : ∃ c, c = l[k2].toNat := ⟨_, rfl⟩
          have hc0l : c0 < 256 := by rw [hc0]; exact Cr.u8_lt _
          rw [B, ← hc0] at hc1
          have r1 : IntKind.i64.wrap (c0 : Int) = (c0 : Int) := IntWalk.i64_in _ (by omega)
          have HEND : Hid (∀ X, X = Cr.sts 8 (y ^^^ c0) → Cr.go x0 (l.take (k2 + 1)) = X) := Lib.hid (by
            rintro X rfl
            rw [List.take_succ_eq_append_getElem hlk, Cr.go_one, hy, hc0])
          have hk2I : (k2 : Int) < (n : Int) := by omega
          clear hnl hcell hc0 hy hlk hk2
          go_wp2
          go_loopw [8, 9] (fun c i wr => BitsRel w g y c0 c i wr) (fun _ i _ => 8 - (intOf i).toNat)
          case atStart => exact ⟨0, y, by omega, rfl, by rw [Nat.pow_zero, Nat.div_one], hyl, by rw [Nat.pow_zero, Nat.div_one]; rfl, hf, hbr2⟩
          case round =>
            obtain ⟨k3, X, hk3, rfl, rfl, hXl, hXe, hf3, hbr3⟩ := hrel
            have HXE := Lib.hid hXe
            clear hXe hf hbr2 hc1
            obtain ⟨q3, hq3⟩ : ∃ q, q = c0 / 2 ^ k3 := ⟨_, rfl⟩
            have hq3l : q3 < 256 := by rw [hq3]; exact Nat.lt_of_le_of_lt (Nat.div_le_self _ _) hc0l
            by_cases hlt3 : k3 < 8
            · obtain ⟨t, ht⟩ : ∃ t, t = q3 % 2 := ⟨_, rfl⟩
              have htl : t ≤ 1 := by omega
              have r3 : (q3 : Int) % 2 = (t : Int) := by omega
              have r3' : (q3 : Int).tmod 2 = (t : Int) := by rw [Int.tmod_eq_emod_of_nonneg (by omega)]; exact r3
              have HS : Hid (Cr.st (X ^^^ t) ^^^ c0 / 2 ^ (k3 + 1) = Cr.sts (k3 + 1) (y ^^^ c0)) := Lib.hid (by rw [ht, hq3]; exact Cr.feed_step HXE.out)
              have HQ : Hid (q3 / 2 = c0 / 2 ^ (k3 + 1)) := Lib.hid (by rw [hq3, Cr.half_pow])
              have HQI : Hid ((q3 : Int) / 2 = ((q3 / 2 : Nat) : Int)) := Lib.hid (by omega)
              rw [← hq3]
              clear hq3 ht
              go_wp2_with (go_at_call 122; refine (bit_any w w.heap.size g X t _ hXl htl hf3 hbase hbr3).mono ?_; rintro e w' ⟨rfl, hf4, hbr4⟩)
              go_roundw
              case rel =>
                exact ⟨k3 + 1, Cr.st (X ^^^ t), by omega, by go_num, by rw [← HQ.out, HQI.out], Cr.st_lt (Nat.xor_lt_two_pow (n := 32) hXl (by omega)), HS.out, hf4, hbr4⟩
              case measure => simp [intOf]; omega
            · have HE : Hid (Cr.go x0 (l.take (k2 + 1)) = X) := Lib.hid (HEND.out X (by
                have := HXE.out
                have h8 : k3 = 8 := by omega
                rw [h8, show c0 / 2 ^ 8 = 0 by omega, Nat.xor_zero] at this
                exact this))
              rw [← hq3]
              clear hq3
              go_wp2
              go_roundw
              case rel =>
                exact ⟨k2 + 1, by have := HN.out; omega, by go_num, by rw [HE.out]; exact hf3, hbr3⟩
              case measure => simp [intOf]; omega
        · have hyw : y = Cr.go x0 l := by rw [hy, List.take_of_length_le (by omega)]
          obtain ⟨z, hz⟩ : ∃ z, z = Cr.mx ^^^ y := ⟨_, rfl⟩
          have hzl : z < 4294967296 := by rw [hz]; exact Cr.mx_lt hyl
          have HZ : Hid (z = Cr.more s l) := Lib.hid (by rw [hz, hyw, HX0.out]; rfl)
          have hbits : Hid (∀ j, j < 32 → 1 - Cr.bit y j = Cr.bit z j) := Lib.hid (fun j hj => by rw [hz, Cr.bit_mx y j hj])
          clear hnl hy hyw hz
          go_wp2
          go_loop [10, 11] (fun o i => OutRel z o i) (fun _ i => downNat i)
          case atStart => exact ⟨32, by omega, rfl, by rw [show z / 2 ^ 32 = 0 from Nat.div_eq_of_lt hzl]; rfl⟩
          case round =>
            obtain ⟨j, hj, rfl, rfl⟩ := hrel
            rcases j with _ | j
            · rw [show downV 0 = Value.int .i64 (-1) from rfl]
              go_wp2
              go_ret
              refine ⟨ret_u32 ?_, hbr2⟩
              exact HZ.out
            · have c1 := hf.cell (k := j) (by omega)
              obtain ⟨o, ho⟩ : ∃ o, o = z / 2 ^ (j + 1) := ⟨_, rfl⟩
              obtain ⟨rb, hrb⟩ : ∃ r, r = Cr.bit y j := ⟨_, rfl⟩
              have hrl : rb ≤ 1 := by rw [hrb]; exact Cr.bit_le _ _
              obtain ⟨nb, hnb⟩ : ∃ r, r = 1 - rb := ⟨_, rfl⟩
              obtain ⟨o3, ho3⟩ : ∃ r, r = 2 * o + nb := ⟨_, rfl⟩
              have h3 : o3 = z / 2 ^ j := by
                rw [ho3, ho, hnb, hrb, hbits.out j (by omega)]
                exact Cr.out_step z j
              have h3l : o3 < 4294967296 := by rw [h3]; exact Nat.lt_of_le_of_lt (Nat.div_le_self _ _) hzl
              have H3 := Lib.hid h3
              have r1 : IntKind.u32.wrap (2 * (o : Int)) = 2 * (o : Int) := by rw [IntKind.wrap_u32']; omega
              have r2 : IntKind.i64.wrap (1 - (rb : Int)) = (nb : Int) := by rw [IntWalk.i64_in _ (by omega)]; omega
              have r2' : (1 : Int) - (rb : Int) = (nb : Int) := by omega
              have r3 : IntKind.u32.wrap (nb : Int) = (nb : Int) := by rw [IntKind.wrap_u32']; omega
              have r4 : IntKind.u32.wrap (2 * (o : Int) + (nb : Int)) = (o3 : Int) := by rw [IntKind.wrap_u32']; omega
              have r6 : IntKind.i64.wrap ((j : Int) - 1) = (j : Int) - 1 := IntWalk.i64_in _ (by omega)
              rw [← hrb] at c1
              rw [← ho]
              rw [show downV (j + 1) = Value.int .i64 (j : Int) from rfl]
              have hj32 : j < 32 := by omega
              clear ho hrb hnb ho3 h3
              go_wp2
              go_round
              case rel => exact ⟨j, by omega, downV_eq j, by rw [← H3.out]⟩
              case measure => simp [downNat_int]

set_option maxHeartbeats 400000 in
theorem refOf_any (A : Option Addr) (l : List UInt8) (n cap : Nat) (w : World) (hn : l.length = n) (hl : n ≤ 9223372036854775807) (hb : BCells w w.heap.size A l) :
    Calls Tryd.prog 71 #[.slice A n cap] w fun e w' => e = .returned (U (Cr.sum l)) ∧ Below w.heap.size w w' := by
  go_enter Tryd.func71, Tryd.ntmps71
  go_wp2_with (go_at_call 98; refine (refMore_any 0 _ _ _ _ _ hn (by decide) hl hb).mono ?_; rintro e w' ⟨rfl, hb1⟩)
  go_ret
  exact ⟨rfl, hb1⟩
end Go.Proofs.YtkmljbbnpjlehaaDoor
