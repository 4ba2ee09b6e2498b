/- What the document's own calls More and Of of sums do, for any sum and any bytes that came in (at most 2^63 - 1 of them). Frames of records, plain: a record's frame, the frame at the front of a text, the records that are told; what was put is told. No program stands in it. No condition. -/
import Derived.Test.YtfceljbmdcbciaaDoorMg02
import Derived.Test.YtfceljbmdcbciaaDoorMg00
namespace Go.Proofs.YtfceljbmdcbciaaDoor
set_option maxRecDepth 8000
open Go.RowKit

theorem Tryd.infoInt : (Tryd.prog.info? 3).map (fun i => (i.zero, i.size, i.bytes)) = some (some (.int .i64 0), 1, 8) := by kernel_rfl
theorem run_makeInts (w : World) : (Instr.makeSlice 164 (.int .i64 32) (.int .i64 32)).run Tryd.prog w = .ok (.slice (some ⟨w.heap.size, 0, none⟩) 32 32) (w.alloc (.cells (Fc fun _ => 0) 3)) := by
  obtain ⟨i0, hi0, hz0, hz1, hz2⟩ := info_parts Tryd.infoInt
  rw [run_make w 164 3 i0 (.int .i64 0) Tryd.underlying164 hi0 hz0 .i64 .i64 32 32 (by decide) (by decide) (by rw [hz2]; decide) (by decide), hz1]
  have e : madeCells (Value.int IntKind.i64 0).cells (Int.toNat 32 * 1) = Fc fun _ => 0 := by kernel_rfl
  rw [e]
  rfl

def InitRel (W : World) (g s : Nat) (q i : Value) (wr : World) : Prop :=
  ∃ k : Nat, k ≤ 32 ∧ i = I k ∧ q = U (s / 2 ^ k) ∧ BF wr g (fun j => if j < k then 1 - Cr.bit s j else 0) ∧ Below W.heap.size W wr
def BytesRel (W : World) (g x0 : Nat) (l : List UInt8) (i : Value) (wr : World) : Prop :=
  ∃ k : Nat, k ≤ l.length ∧ i = I k ∧ BF wr g (Cr.bit (Cr.go x0 (l.take k))) ∧ Below W.heap.size W wr
def BitsRel (W : World) (g y c0 : Nat) (c i : Value) (wr : World) : Prop :=
  ∃ k X : Nat, k ≤ 8 ∧ i = I k ∧ c = I (c0 / 2 ^ k) ∧ X < 4294967296 ∧ X ^^^ c0 / 2 ^ k = Cr.sts k (y ^^^ c0) ∧ BF wr g (Cr.bit X) ∧ Below W.heap.size W wr
def downV : Nat → Value
  | 0 => .int .i64 (-1)
  | j + 1 => I j
theorem downV_eq (j : Nat) : Value.int .i64 ((j : Int) - 1) = downV j := by
  cases j with
  | zero => rfl
  | succ j => show Value.int .i64 (((j + 1 : Nat) : Int) - 1) = Value.int .i64 (j : Int); congr 1; omega
def OutRel (y : Nat) (o i : Value) : Prop := ∃ j : Nat, j ≤ 32 ∧ i = downV j ∧ o = U (y / 2 ^ j)
def downNat : Value → Nat
  | .int _ n => (n + 1).toNat
  | _ => 0
theorem downNat_int (k : IntKind) (n : Int) : downNat (.int k n) = (n + 1).toNat := rfl

set_option maxHeartbeats 2000000 in
theorem refMore_any (s : Nat) (A : Option Addr) (l : List UInt8) (n cap : Nat) (w : World) (hn : l.length = n) (hs : s < 4294967296) (hl : n ≤ 9223372036854775807) (hb : BCells w w.heap.size A l) :
    Calls Tryd.prog 107 #[U s, .slice A n cap] w fun e w' => e = .returned (U (Cr.more s l)) ∧ Below w.heap.size w w' := by
  obtain ⟨x0, hx0⟩ : ∃ x, x = Cr.mx ^^^ s := ⟨_, rfl⟩
  have hx0l : x0 < 4294967296 := by rw [hx0]; exact Cr.mx_lt hs
  have HX0 := Lib.hid hx0
  have HN := Lib.hid hn
  clear hx0 hn
  go_enter Tryd.func107, Tryd.ntmps107
  go_wp2_with fail
  rw [run_makeInts]
  simp only [Result.andThen]
  rw [Oper.upon_value]
  obtain ⟨g, hg⟩ : ∃ g, g = w.heap.size := ⟨_, rfl⟩
  rw [← hg]
  have hbase : w.heap.size ≤ g := by omega
  obtain ⟨w1, hw1⟩ : ∃ w1, w1 = w.alloc (.cells (Fc fun _ => 0) 3) := ⟨_, rfl⟩
  rw [← hw1]
  have hf1 : BF w1 g (fun _ => 0) := by rw [hw1, hg]; exact heap_alloc_new w _
  have hb1 : Below w.heap.size w w1 := by rw [hw1]; exact (Below.refl _ _).alloc (Nat.le_refl _) _
  clear hw1 hg
  go_wp2
  go_loopw [0, 6] (fun q i wr => InitRel w g s q i wr) (fun _ i _ => 32 - (intOf i).toNat)
  case atStart => exact ⟨0, by omega, rfl, by rw [Nat.pow_zero, Nat.div_one], hf1.congr (fun i _ => by rw [if_neg (by omega)]), hb1⟩
  case round =>
    obtain ⟨k, hk, rfl, rfl, hf, hbr⟩ := hrel
    clear hf1 hb1
    by_cases hlt : k < 32
    · obtain ⟨q, hq⟩ : ∃ q, q = s / 2 ^ k := ⟨_, rfl⟩
      have hql : q < 4294967296 := by rw [hq]; exact Nat.lt_of_le_of_lt (Nat.div_le_self _ _) hs
      obtain ⟨t, ht⟩ : ∃ t, t = q % 2 := ⟨_, rfl⟩
      obtain ⟨v, hv⟩ : ∃ v, v = 1 - t := ⟨_, rfl⟩
      have c1 := hf.cell (k := k) hlt
      rw [if_neg (by omega)] at c1
      have ff := hf.frozen k
      have HN1 := Lib.hid (hf.set k v)
      have HV : Hid (v = 1 - Cr.bit s k) := Lib.hid (by rw [hv, ht, hq]; rfl)
      have HQ : Hid (q / 2 = s / 2 ^ (k + 1)) := Lib.hid (by rw [hq, Cr.half_pow])
      have HQI : Hid ((q : Int) / 2 = ((q / 2 : Nat) : Int)) := Lib.hid (by omega)
      have r3 : (q : Int) % 2 = (t : Int) := by omega
      have htl : t ≤ 1 := by omega
      have r4 : IntKind.i64.wrap (t : Int) = (t : Int) := IntWalk.i64_in _ (by omega)
      have r5 : IntKind.i64.wrap (1 - (t : Int)) = (v : Int) := by rw [IntWalk.i64_in _ (by omega)]; omega
      have r5' : (1 : Int) - (t : Int) = (v : Int) := by omega
      rw [← hq]
      have HB := Lib.hid hbr
      clear hf hbr hq ht hv
      go_wp2
      go_roundw
      case rel =>
        refine ⟨k + 1, by omega, by go_num, by rw [← HQ.out, HQI.out], HN1.out.congr (fun i _ => ?_), HB.out.setCell (p := ⟨g, k, none⟩) hbase _⟩
        by_cases h1 : i = k
        · subst h1; rw [if_pos rfl, if_pos (by omega)]; exact HV.out
        · rw [if_neg h1]
          by_cases h2 : i < k
          · rw [if_pos h2, if_pos (by omega)]
          · rw [if_neg h2, if_neg (by omega)]
      case measure => simp [intOf]; omega
    · have hf2 : BF wr g (Cr.bit x0) := hf.congr (fun i hi => by
        rw [if_pos (by omega), HX0.out, Cr.bit_mx s i hi])
      obtain ⟨q, hq⟩ : ∃ q, q = s / 2 ^ k := ⟨_, rfl⟩
      rw [← hq]
      clear hf hq
      go_wp2
      go_loopw [7] (fun i wr => BytesRel w g x0 l i wr) (fun i _ => n - (intOf i).toNat)
      case atStart => exact ⟨0, Nat.zero_le _, rfl, hf2, hbr⟩
      case round =>
        obtain ⟨k2, hk2, rfl, hf, hbr2⟩ := hrel
        clear hf2 hbr
        have hnl := HN.out
        obtain ⟨y, hy⟩ : ∃ y, y = Cr.go x0 (l.take k2) := ⟨_, rfl⟩
        have hyl : y < 4294967296 := by rw [hy]; exact Cr.go_lt _ hx0l
        rw [← hy] at hf
        by_cases hlt2 : k2 < n
        · obtain ⟨b, off, rfl, hlb, hcell⟩ := (hb.below hbr2) (by omega)
          have hlk : k2 < l.length := by omega
          have hc1 := hcell k2 hlk
          obtain ⟨c0, hc0⟩ : ∃ c, c = l[k2].toNat := ⟨_, rfl⟩
          have hc0l : c0 < 256 := by rw [hc0]; exact Cr.u8_lt _
          rw [B, ← hc0] at hc1
          have r1 : IntKind.i64.wrap (c0 : Int) = (c0 : Int) := IntWalk.i64_in _ (by omega)
          have HEND : Hid (∀ X, X = Cr.sts 8 (y ^^^ c0) → Cr.go x0 (l.take (k2 + 1)) = X) := Lib.hid (by
            rintro X rfl
            rw [List.take_succ_eq_append_getElem hlk, Cr.go_one, hy, hc0])
          have hk2I : (k2 : Int) < (n : Int) := by omega
          clear hnl hcell hc0 hy hlk hk2
          go_wp2
          go_loopw [8, 9] (fun c i wr => BitsRel w g y c0 c i wr) (fun _ i _ => 8 - (intOf i).toNat)
          case atStart => exact ⟨0, y, by omega, rfl, by rw [Nat.pow_zero, Nat.div_one], hyl, by rw [Nat.pow_zero, Nat.div_one]; rfl, hf, hbr2⟩
          case round =>
            obtain ⟨k3, X, hk3, rfl, rfl, hXl, hXe, hf3, hbr3⟩ := hrel
            have HXE := Lib.hid hXe
            clear hXe hf hbr2 hc1
            obtain ⟨q3, hq3⟩ : ∃ q, q = c0 / 2 ^ k3 := ⟨_, rfl⟩
            have hq3l : q3 < 256 := by rw [hq3]; exact Nat.lt_of_le_of_lt (Nat.div_le_self _ _) hc0l
            by_cases hlt3 : k3 < 8
            · obtain ⟨t, ht⟩ : ∃ t, t = q3 % 2 := ⟨_, rfl⟩
              have htl : t ≤ 1 := by omega
              have r3 : (q3 : Int) % 2 = (t : Int) := by omega
              have r3' : (q3 : Int).tmod 2 = (t : Int) := by rw [Int.tmod_eq_emod_of_nonneg (by omega)]; exact r3
              have HS : Hid (Cr.st (X ^^^ t) ^^^ c0 / 2 ^ (k3 + 1) = Cr.sts (k3 + 1) (y ^^^ c0)) := Lib.hid (by rw [ht, hq3]; exact Cr.feed_step HXE.out)
              have HQ : Hid (q3 / 2 = c0 / 2 ^ (k3 + 1)) := Lib.hid (by rw [hq3, Cr.half_pow])
              have HQI : Hid ((q3 : Int) / 2 = ((q3 / 2 : Nat) : Int)) := Lib.hid (by omega)
              rw [← hq3]
              clear hq3 ht
              go_wp2_with (go_at_call 119; refine (bit_any w w.heap.size g X t _ hXl htl hf3 hbase hbr3).mono ?_; rintro e w' ⟨rfl, hf4, hbr4⟩)
              go_roundw
              case rel =>
                exact ⟨k3 + 1, Cr.st (X ^^^ t), by omega, by go_num, by rw [← HQ.out, HQI.out], Cr.st_lt (Nat.xor_lt_two_pow (n := 32) hXl (by omega)), HS.out, hf4, hbr4⟩
              case measure => simp [intOf]; omega
            · have HE : Hid (Cr.go x0 (l.take (k2 + 1)) = X) := Lib.hid (HEND.out X (by
                have := HXE.out
                have h8 : k3 = 8 := by omega
                rw [h8, show c0 / 2 ^ 8 = 0 by omega, Nat.xor_zero] at this
                exact this))
              rw [← hq3]
              clear hq3
              go_wp2
              go_roundw
              case rel =>
                exact ⟨k2 + 1, by have := HN.out; omega, by go_num, by rw [HE.out]; exact hf3, hbr3⟩
              case measure => simp [intOf]; omega
        · have hyw : y = Cr.go x0 l := by rw [hy, List.take_of_length_le (by omega)]
          obtain ⟨z, hz⟩ : ∃ z, z = Cr.mx ^^^ y := ⟨_, rfl⟩
          have hzl : z < 4294967296 := by rw [hz]; exact Cr.mx_lt hyl
          have HZ : Hid (z = Cr.more s l) := Lib.hid (by rw [hz, hyw, HX0.out]; rfl)
          have hbits : Hid (∀ j, j < 32 → 1 - Cr.bit y j = Cr.bit z j) := Lib.hid (fun j hj => by rw [hz, Cr.bit_mx y j hj])
          clear hnl hy hyw hz
          go_wp2
          go_loop [10, 11] (fun o i => OutRel z o i) (fun _ i => downNat i)
          case atStart => exact ⟨32, by omega, rfl, by rw [show z / 2 ^ 32 = 0 from Nat.div_eq_of_lt hzl]; rfl⟩
          case round =>
            obtain ⟨j, hj, rfl, rfl⟩ := hrel
            rcases j with _ | j
            · rw [show downV 0 = Value.int .i64 (-1) from rfl]
              go_wp2
              go_ret
              refine ⟨ret_u32 ?_, hbr2⟩
              exact HZ.out
            · have c1 := hf.cell (k := j) (by omega)
              obtain ⟨o, ho⟩ : ∃ o, o = z / 2 ^ (j + 1) := ⟨_, rfl⟩
              obtain ⟨rb, hrb⟩ : ∃ r, r = Cr.bit y j := ⟨_, rfl⟩
              have hrl : rb ≤ 1 := by rw [hrb]; exact Cr.bit_le _ _
              obtain ⟨nb, hnb⟩ : ∃ r, r = 1 - rb := ⟨_, rfl⟩
              obtain ⟨o3, ho3⟩ : ∃ r, r = 2 * o + nb := ⟨_, rfl⟩
              have h3 : o3 = z / 2 ^ j := by
                rw [ho3, ho, hnb, hrb, hbits.out j (by omega)]
                exact Cr.out_step z j
              have h3l : o3 < 4294967296 := by rw [h3]; exact Nat.lt_of_le_of_lt (Nat.div_le_self _ _) hzl
              have H3 := Lib.hid h3
              have r1 : IntKind.u32.wrap (2 * (o : Int)) = 2 * (o : Int) := by rw [IntKind.wrap_u32']; omega
              have r2 : IntKind.i64.wrap (1 - (rb : Int)) = (nb : Int) := by rw [IntWalk.i64_in _ (by omega)]; omega
              have r2' : (1 : Int) - (rb : Int) = (nb : Int) := by omega
              have r3 : IntKind.u32.wrap (nb : Int) = (nb : Int) := by rw [IntKind.wrap_u32']; omega
              have r4 : IntKind.u32.wrap (2 * (o : Int) + (nb : Int)) = (o3 : Int) := by rw [IntKind.wrap_u32']; omega
              have r6 : IntKind.i64.wrap ((j : Int) - 1) = (j : Int) - 1 := IntWalk.i64_in _ (by omega)
              rw [← hrb] at c1
              rw [← ho]
              rw [show downV (j + 1) = Value.int .i64 (j : Int) from rfl]
              have hj32 : j < 32 := by omega
              clear ho hrb hnb ho3 h3
              go_wp2
              go_round
              case rel => exact ⟨j, by omega, downV_eq j, by rw [← H3.out]⟩
              case measure => simp [downNat_int]

set_option maxHeartbeats 400000 in
theorem refOf_any (A : Option Addr) (l : List UInt8) (n cap : Nat) (w : World) (hn : l.length = n) (hl : n ≤ 9223372036854775807) (hb : BCells w w.heap.size A l) :
    Calls Tryd.prog 79 #[.slice A n cap] w fun e w' => e = .returned (U (Cr.sum l)) ∧ Below w.heap.size w w' := by
  go_enter Tryd.func79, Tryd.ntmps79
  go_wp2_with (go_at_call 107; refine (refMore_any 0 _ _ _ _ _ hn (by decide) hl hb).mono ?_; rintro e w' ⟨rfl, hb1⟩)
  go_ret
  exact ⟨rfl, hb1⟩
end Go.Proofs.YtfceljbmdcbciaaDoor
namespace Go.Proofs.YtfceljbmdcbciaaDoor
set_option maxRecDepth 8000
namespace Fr
abbrev Bytes := List UInt8

def be2 (n : Nat) : Bytes := [UInt8.ofNat (n / 256), UInt8.ofNat n]
def be4 (s : Nat) : Bytes := [UInt8.ofNat (s / 16777216), UInt8.ofNat (s / 65536), UInt8.ofNat (s / 256), UInt8.ofNat s]
def frame (b : Bytes) : Bytes := be2 b.length ++ (be4 (Cr.sum (be2 b.length ++ b)) ++ b)
def ok (b : Bytes) : Bool := decide (0 < b.length) && decide (b.length ≤ 4000)
def frames (l : List Bytes) : Bytes := l.flatMap frame
/-- What Put tells: 1 for no byte, 2 for too many. -/
def put (b : Bytes) : Except Nat Bytes := if b.length = 0 then .error 1 else if 4000 < b.length then .error 2 else .ok (frame b)
def all : List Bytes → Except Nat Bytes
  | [] => .ok []
  | b :: l => match put b with
    | .error e => .error e
    | .ok f => match all l with
      | .error e => .error e
      | .ok r => .ok (f ++ r)
/-- Are the records of a size that is looked at? -/
def small (b : Bytes) : Bool := !(decide (100 < b.length) && decide (b.length ≤ 4000))
def few (l : List Bytes) : Bool := l.all small && decide (l.length ≤ 20)
/-- How long the record at the front says that it is. -/
def len (b : Bytes) : Nat := match b with
  | x :: y :: _ => 256 * x.toNat + y.toNat
  | _ => 0
/-- The record whose frame stands at the front, and what is behind. -/
def one (b : Bytes) : Option (Bytes × Bytes) :=
  if 6 + len b ≤ b.length then
    (if ok ((b.drop 6).take (len b)) && (b.take (6 + len b) == frame ((b.drop 6).take (len b))) then some ((b.drop 6).take (len b), b.drop (6 + len b)) else none)
  else none
def scanF : Nat → Bytes → List Bytes × Nat
  | 0, _ => ([], 0)
  | f + 1, b => match one b with
    | none => ([], 0)
    | some (x, r) => (x :: (scanF f r).1, (6 + x.length) + (scanF f r).2)
def scan (b : Bytes) : List Bytes × Nat := scanF b.length b

theorem frame_len (b : Bytes) : (frame b).length = 6 + b.length := by unfold frame be2 be4; simp; omega
theorem ok_iff (b : Bytes) : ok b = true ↔ 0 < b.length ∧ b.length ≤ 4000 := by unfold ok; simp
theorem be2_val {n : Nat} (h : n < 65536) (r : Bytes) : len (be2 n ++ r) = n := by
  show 256 * (UInt8.ofNat (n / 256)).toNat + (UInt8.ofNat n).toNat = n
  rw [UInt8.toNat_ofNat', UInt8.toNat_ofNat']
  omega
theorem len_frame {b : Bytes} (h : ok b = true) (r : Bytes) : len (frame b ++ r) = b.length := by
  unfold frame
  rw [List.append_assoc]
  exact be2_val (by have := (ok_iff b).1 h; omega) _
theorem frame_drop (b r : Bytes) : (frame b ++ r).drop 6 = b ++ r := by
  unfold frame be2 be4
  rfl
theorem one_frame {b : Bytes} (h : ok b = true) (r : Bytes) : one (frame b ++ r) = some (b, r) := by
  have e1 := len_frame h r
  have e2 := frame_drop b r
  have e3 := frame_len b
  have e4 : (frame b ++ r).take (6 + b.length) = frame b := by rw [← e3, List.take_left]
  have e5 : (frame b ++ r).drop (6 + b.length) = r := by rw [← e3, List.drop_left]
  unfold one
  rw [e1, e2, List.take_left, e4, e5, h, if_pos (by rw [List.length_append]; omega), if_pos (by simp)]
theorem one_is {b x r : Bytes} (h : one b = some (x, r)) : ok x = true ∧ b = frame x ++ r := by
  unfold one at h
  by_cases h1 : 6 + len b ≤ b.length
  · rw [if_pos h1] at h
    by_cases h2 : (ok ((b.drop 6).take (len b)) && (b.take (6 + len b) == frame ((b.drop 6).take (len b)))) = true
    · rw [if_pos h2] at h
      simp only [Option.some.injEq, Prod.mk.injEq] at h
      obtain ⟨e1, e2⟩ := h
      rw [e1, Bool.and_eq_true] at h2
      refine ⟨h2.1, ?_⟩
      rw [← beq_iff_eq.1 h2.2, ← e2, List.take_append_drop]
    · rw [if_neg h2] at h; cases h
  · rw [if_neg h1] at h; cases h
theorem one_less {b x r : Bytes} (h : one b = some (x, r)) : r.length + (6 + x.length) = b.length := by
  have e := congrArg List.length (one_is h).2
  rw [List.length_append, frame_len] at e
  omega
theorem scanF_more : ∀ (f g : Nat) (b : Bytes), b.length ≤ f → b.length ≤ g → scanF f b = scanF g b
  | 0, g, b, h1, _ => by
    have hb : b = [] := List.length_eq_zero_iff.1 (by omega)
    subst hb
    cases g with
    | zero => rfl
    | succ g => rfl
  | f + 1, 0, b, _, h2 => by
    have hb : b = [] := List.length_eq_zero_iff.1 (by omega)
    subst hb
    rfl
  | f + 1, g + 1, b, h1, h2 => by
    unfold scanF
    cases ho : one b with
    | none => rfl
    | some q =>
      obtain ⟨x, r⟩ := q
      have := one_less ho
      dsimp only
      rw [scanF_more f g r (by omega) (by omega)]
theorem scan_none {b : Bytes} (h : one b = none) : scan b = ([], 0) := by
  unfold scan
  cases b with
  | nil => rfl
  | cons c b => rw [List.length_cons]; unfold scanF; rw [h]
theorem scan_some {b x r : Bytes} (h : one b = some (x, r)) : scan b = (x :: (scan r).1, (6 + x.length) + (scan r).2) := by
  have hl := one_less h
  unfold scan
  obtain ⟨f, hf⟩ : ∃ f, b.length = f + 1 := ⟨b.length - 1, by omega⟩
  rw [hf]
  conv => lhs; unfold scanF
  rw [h]
  dsimp only
  rw [scanF_more f r.length r (by omega) (Nat.le_refl _)]
theorem frames_cons (b : Bytes) (l : List Bytes) : frames (b :: l) = frame b ++ frames l := by unfold frames; rw [List.flatMap_cons]
theorem frames_app (a b : List Bytes) : frames (a ++ b) = frames a ++ frames b := by unfold frames; rw [List.flatMap_append]
/-- What was put is told, and one goes on behind it as from the beginning. -/
theorem scan_frames : ∀ (l : List Bytes) (r : Bytes), l.all ok = true → scan (frames l ++ r) = (l ++ (scan r).1, (frames l).length + (scan r).2)
  | [], r, _ => by simp [frames]
  | b :: l, r, h => by
    rw [List.all_cons, Bool.and_eq_true] at h
    rw [frames_cons, List.append_assoc, scan_some (one_frame h.1 _), scan_frames l r h.2, List.length_append, frame_len]
    simp
    omega
/-- What is told is put as it stands there, and nothing is told behind it. -/
theorem scan_is : ∀ (k : Nat) (b : Bytes), b.length ≤ k → (scan b).1.all ok = true ∧ b = frames (scan b).1 ++ b.drop (scan b).2 ∧ (scan b).2 = (frames (scan b).1).length ∧ one (b.drop (scan b).2) = none
  | 0, b, h => by
    have hb : b = [] := List.length_eq_zero_iff.1 (by omega)
    subst hb
    exact ⟨rfl, rfl, rfl, rfl⟩
  | k + 1, b, h => by
    cases ho : one b with
    | none =>
      rw [scan_none ho]
      exact ⟨rfl, by simp [frames], rfl, ho⟩
    | some q =>
      obtain ⟨x, r⟩ := q
      have hl := one_less ho
      obtain ⟨h1, h2⟩ := one_is ho
      obtain ⟨i1, i2, i3, i4⟩ := scan_is k r (by omega)
      rw [scan_some ho]
      dsimp only
      have hd : b.drop (6 + x.length + (scan r).2) = r.drop (scan r).2 := by
        conv => lhs; rw [h2]
        rw [← frame_len, ← List.drop_drop, List.drop_left]
      rw [hd, frames_cons]
      refine ⟨by rw [List.all_cons, h1, i1]; rfl, ?_, by rw [List.length_append, frame_len, i3], i4⟩
      rw [List.append_assoc, ← i2]
      exact h2
theorem scan_le (b : Bytes) : (scan b).2 ≤ b.length := by
  obtain ⟨_, h2, h3, _⟩ := scan_is b.length b (Nat.le_refl _)
  have e := congrArg List.length h2
  rw [List.length_append] at e
  omega
/-- Behind what is told nothing is told. -/
theorem scan_rest (b : Bytes) : scan (b.drop (scan b).2) = ([], 0) := scan_none (scan_is b.length b (Nat.le_refl _)).2.2.2
theorem all_of_ok : ∀ {l : List Bytes}, l.all ok = true → all l = .ok (frames l)
  | [], _ => rfl
  | b :: l, h => by
    rw [List.all_cons, Bool.and_eq_true] at h
    have hb := (ok_iff b).1 h.1
    unfold all put
    rw [if_neg (by omega), if_neg (by omega), all_of_ok h.2, frames_cons]
theorem ok_of_all : ∀ {l : List Bytes} {r : Bytes}, all l = .ok r → l.all ok = true ∧ r = frames l
  | [], r, h => by
    unfold all at h
    injection h with h
    exact ⟨rfl, h.symm⟩
  | b :: l, r, h => by
    unfold all put at h
    by_cases h1 : b.length = 0
    · rw [if_pos h1] at h; cases h
    · rw [if_neg h1] at h
      by_cases h2 : 4000 < b.length
      · rw [if_pos h2] at h; cases h
      · rw [if_neg h2] at h
        dsimp only at h
        cases ha : all l with
        | error e => rw [ha] at h; cases h
        | ok r' =>
          rw [ha] at h
          injection h with h
          obtain ⟨i1, i2⟩ := ok_of_all ha
          refine ⟨by rw [List.all_cons, i1, (ok_iff b).2 ⟨by omega, by omega⟩]; rfl, ?_⟩
          rw [← h, i2, frames_cons]
/-- An error of All is one of the two. -/
theorem all_err : ∀ {l : List Bytes} {e : Nat}, all l = .error e → e = 1 ∨ e = 2
  | [], e, h => by unfold all at h; cases h
  | b :: l, e, h => by
    unfold all put at h
    by_cases h1 : b.length = 0
    · rw [if_pos h1] at h
      injection h with h
      exact .inl h.symm
    · rw [if_neg h1] at h
      by_cases h2 : 4000 < b.length
      · rw [if_pos h2] at h
        injection h with h
        exact .inr h.symm
      · rw [if_neg h2] at h
        dsimp only at h
        cases ha : all l with
        | error e' =>
          rw [ha] at h
          injection h with h
          subst h
          exact all_err ha
        | ok r => rw [ha] at h; cases h

theorem all_error : ∀ {l : List Bytes} {k : Nat} (hk : k < l.length) {e : Nat}, (l.take k).all ok = true → put l[k] = .error e → all l = .error e
  | b :: l, 0, _, e, _, h => by
    have h' : put b = .error e := h
    unfold all
    rw [h']
  | b :: l, k + 1, hk, e, ho, h => by
    rw [List.take_succ_cons, List.all_cons, Bool.and_eq_true] at ho
    have hb := (ok_iff b).1 ho.1
    have ih := all_error (l := l) (k := k) (by simpa using hk) ho.2 (by simpa using h)
    unfold all
    rw [show put b = .ok (frame b) by unfold put; rw [if_neg (by omega), if_neg (by omega)], ih]
theorem put_ok {b : Bytes} (h : ok b = true) : put b = .ok (frame b) := by
  have hb := (ok_iff b).1 h
  unfold put
  rw [if_neg (by omega), if_neg (by omega)]
theorem put_bad {b : Bytes} (h : ok b = false) : ∃ e, (e = 1 ∨ e = 2) ∧ put b = .error e := by
  unfold put
  by_cases h0 : b.length = 0
  · exact ⟨1, .inl rfl, by rw [if_pos h0]⟩
  · by_cases h4 : 4000 < b.length
    · exact ⟨2, .inr rfl, by rw [if_neg h0, if_pos h4]⟩
    · have : ok b = true := (ok_iff b).2 ⟨by omega, by omega⟩
      rw [this] at h; cases h
/-- How long all frames would be. -/
def total : List Bytes → Nat
  | [] => 0
  | b :: l => (6 + b.length) + total l
theorem frames_total : ∀ l : List Bytes, (frames l).length = total l
  | [] => rfl
  | b :: l => by rw [frames_cons, List.length_append, frame_len, frames_total l]; rfl
theorem total_app : ∀ a b : List Bytes, total (a ++ b) = total a + total b
  | [], b => by simp [total]
  | x :: a, b => by
    show (6 + x.length) + total (a ++ b) = ((6 + x.length) + total a) + total b
    rw [total_app a b]
    omega
theorem total_take (l : List Bytes) (k : Nat) : total (l.take k) ≤ total l := by
  have h := total_app (l.take k) (l.drop k)
  rw [List.take_append_drop] at h
  omega

theorem total_mem : ∀ {l : List Bytes} {b : Bytes}, b ∈ l → b.length ≤ total l
  | x :: l, b, hb => by
    show b.length ≤ (6 + x.length) + total l
    rcases List.mem_cons.1 hb with rfl | hb
    · omega
    · have := total_mem hb; omega

/-- How long the frames are that are made ahead of the first error. -/
def okTotal : List Bytes → Nat
  | [] => 0
  | b :: l => if ok b = true then (6 + b.length) + okTotal l else 0
theorem okTotal_take : ∀ (l : List Bytes) (k : Nat), (l.take k).all ok = true → total (l.take k) ≤ okTotal l
  | [], k, _ => by rw [List.take_nil]; exact Nat.le_refl _
  | b :: l, 0, _ => by rw [List.take_zero]; exact Nat.zero_le _
  | b :: l, k + 1, h => by
    rw [List.take_succ_cons, List.all_cons, Bool.and_eq_true] at h
    have ih := okTotal_take l k h.2
    rw [List.take_succ_cons]
    show (6 + b.length) + total (l.take k) ≤ okTotal (b :: l)
    unfold okTotal
    rw [if_pos h.1]
    omega
theorem okTotal_le : ∀ l : List Bytes, okTotal l ≤ total l
  | [] => Nat.le_refl _
  | b :: l => by
    have := okTotal_le l
    unfold okTotal
    show _ ≤ (6 + b.length) + total l
    split <;> omega
theorem okTotal_small : ∀ l : List Bytes, l.all small = true → okTotal l ≤ 106 * l.length
  | [], _ => Nat.le_refl _
  | b :: l, h => by
    rw [List.all_cons, Bool.and_eq_true] at h
    have ih := okTotal_small l h.2
    unfold okTotal
    by_cases hb : ok b = true
    · rw [if_pos hb]
      have hb' := (ok_iff b).1 hb
      have hs := h.1
      unfold small at hs
      have h100 : b.length ≤ 100 := by
        rcases Nat.lt_or_ge 100 b.length with h1 | h1
        · rw [decide_eq_true h1, decide_eq_true hb'.2] at hs; cases hs
        · exact h1
      rw [List.length_cons]
      omega
    · rw [if_neg hb]; omega
theorem okTotal_few {l : List Bytes} (h : few l = true) : okTotal l ≤ 2120 := by
  unfold few at h
  rw [Bool.and_eq_true] at h
  have h1 := okTotal_small l h.1
  have h2 : l.length ≤ 20 := of_decide_eq_true h.2
  omega

theorem total_count : ∀ l : List Bytes, l.length ≤ total l
  | [] => Nat.le_refl _
  | b :: l => by
    have := total_count l
    show l.length + 1 ≤ (6 + b.length) + total l
    omega

theorem all_bad : ∀ {l : List Bytes}, l.all ok = false → ∃ e, (e = 1 ∨ e = 2) ∧ all l = .error e
  | [], h => by cases h
  | b :: l, h => by
    cases hb : ok b with
    | false =>
      obtain ⟨e, he, hp⟩ := put_bad hb
      exact ⟨e, he, by unfold all; rw [hp]⟩
    | true =>
      rw [List.all_cons, hb, Bool.true_and] at h
      obtain ⟨e, he, hp⟩ := all_bad h
      exact ⟨e, he, by unfold all; rw [put_ok hb, hp]⟩
theorem scan_all {l : List Bytes} (h : l.all ok = true) : scan (frames l) = (l, (frames l).length) := by
  have := scan_frames l [] h
  rw [List.append_nil, scan_none (b := []) rfl] at this
  simpa using this

/-! ### Places -/
theorem len_at {b : Bytes} {a : Nat} (h : a + 1 < b.length) : len (b.drop a) = 256 * b[a].toNat + b[a + 1].toNat := by
  rw [List.drop_eq_getElem_cons (by omega : a < b.length), List.drop_eq_getElem_cons (by omega : a + 1 < b.length)]
  rfl
theorem one_end {b : Bytes} {a : Nat} (h : b.length < a + 6) : one (b.drop a) = none := by
  unfold one
  rw [if_neg (by rw [List.length_drop]; omega)]
theorem one_long {b : Bytes} {a n : Nat} (hn : n = len (b.drop a)) (h : b.length < a + 6 + n) : one (b.drop a) = none := by
  unfold one
  rw [if_neg (by rw [List.length_drop]; omega)]
theorem one_at {b : Bytes} {a n : Nat} (hn : n = len (b.drop a)) (h : a + 6 + n ≤ b.length) : one (b.drop a) = match put ((b.drop (a + 6)).take n) with
    | .error _ => none
    | .ok f => if (b.drop a).take (6 + n) = f then some ((b.drop (a + 6)).take n, b.drop (a + 6 + n)) else none := by
  unfold one
  rw [← hn, if_pos (by rw [List.length_drop]; omega), List.drop_drop, List.drop_drop]
  obtain ⟨x, hx⟩ : ∃ x, x = (b.drop (a + 6)).take n := ⟨_, rfl⟩
  rw [← hx, show a + (6 + n) = a + 6 + n by omega]
  cases ho : ok x with
  | false =>
    obtain ⟨e, _, he⟩ := put_bad ho
    rw [he, Bool.false_and]
    rfl
  | true =>
    rw [put_ok ho, Bool.true_and]
    dsimp only
    by_cases hq : (b.drop a).take (6 + n) = frame x
    · rw [if_pos hq, if_pos (by rw [hq]; simp)]
    · rw [if_neg hq, if_neg (by simpa using hq)]
/-- How far the records are told. -/
def ScanTo (b : Bytes) (acc : List Bytes) (a : Nat) : Prop := a ≤ b.length ∧ scan b = (acc ++ (scan (b.drop a)).1, a + (scan (b.drop a)).2)
theorem ScanTo.start (b : Bytes) : ScanTo b [] 0 := ⟨Nat.zero_le _, by simp⟩
theorem ScanTo.stop {b : Bytes} {acc : List Bytes} {a : Nat} (h : ScanTo b acc a) (ho : one (b.drop a) = none) : scan b = (acc, a) := by
  rw [h.2, scan_none ho]
  simp
theorem ScanTo.step {b : Bytes} {acc : List Bytes} {a : Nat} (h : ScanTo b acc a) {x : Bytes} {a' : Nat} (ho : one (b.drop a) = some (x, b.drop a')) (ha : a' = a + 6 + x.length) (hl : a' ≤ b.length) : ScanTo b (acc ++ [x]) a' := by
  refine ⟨hl, ?_⟩
  rw [h.2, scan_some ho]
  simp
  omega

/-! ### Beginnings -/
theorem one_short {x : Bytes} (h : ok x = true) {k : Nat} (hk : k < 6 + x.length) (r : Bytes) : one ((frame x ++ r).take k) = none := by
  cases ho : one ((frame x ++ r).take k) with
  | none => rfl
  | some q =>
    exfalso
    obtain ⟨y, r'⟩ := q
    obtain ⟨h1, h2⟩ := one_is ho
    have hl := congrArg List.length h2
    rw [List.length_append, frame_len, List.length_take] at hl
    have h3 : len ((frame x ++ r).take k) = y.length := by rw [h2]; exact len_frame h1 r'
    have h4 : len ((frame x ++ r).take k) = len (frame x ++ r) := by
      have hy := (ok_iff y).1 h1
      obtain ⟨k', rfl⟩ : ∃ k', k = k' + 2 := ⟨k - 2, by omega⟩
      unfold frame be2
      rfl
    rw [h4, len_frame h r] at h3
    omega
/-- How many of the records are whole in the first k bytes. -/
def whole : List Bytes → Nat → Nat
  | [], _ => 0
  | b :: l, k => if 6 + b.length ≤ k then 1 + whole l (k - (6 + b.length)) else 0
theorem scan_cut : ∀ (l : List Bytes) (k : Nat), l.all ok = true → scan ((frames l).take k) = (l.take (whole l k), (frames (l.take (whole l k))).length)
  | [], k, _ => by
    show scan (([] : Bytes).take k) = _
    rw [List.take_nil]
    rfl
  | b :: l, k, h => by
    rw [List.all_cons, Bool.and_eq_true] at h
    unfold whole
    by_cases hk : 6 + b.length ≤ k
    · rw [if_pos hk, frames_cons, List.take_append, frame_len, List.take_of_length_le (by rw [frame_len]; exact hk), scan_some (one_frame h.1 _), scan_cut l _ h.2, Nat.add_comm 1, List.take_succ_cons, frames_cons, List.length_append, frame_len]
    · rw [if_neg hk, frames_cons, scan_none (one_short h.1 (by omega) _)]
      rfl

/-- j records are whole, of a bytes. -/
def WholeAt (l : List Bytes) (k j a : Nat) : Prop := j ≤ l.length ∧ a = total (l.take j) ∧ a ≤ k ∧ whole l k = j + whole (l.drop j) (k - a)
theorem WholeAt.start (l : List Bytes) (k : Nat) : WholeAt l k 0 0 := ⟨Nat.zero_le _, by rw [List.take_zero]; rfl, Nat.zero_le _, by simp⟩
theorem WholeAt.step {l : List Bytes} {k j a : Nat} (h : WholeAt l k j a) (hj : j < l.length) (hk : a + 6 + l[j].length ≤ k) : WholeAt l k (j + 1) (a + 6 + l[j].length) := by
  obtain ⟨h1, h2, h3, h4⟩ := h
  refine ⟨hj, ?_, hk, ?_⟩
  · rw [List.take_succ_eq_append_getElem hj, total_app, ← h2]
    show a + 6 + l[j].length = a + ((6 + l[j].length) + 0)
    omega
  · rw [h4, List.drop_eq_getElem_cons hj]
    conv => lhs; unfold whole
    rw [if_pos (by omega), show k - a - (6 + l[j].length) = k - (a + 6 + l[j].length) by omega]
    omega
theorem WholeAt.stop {l : List Bytes} {k j a : Nat} (h : WholeAt l k j a) (hn : ¬ ∃ h : j < l.length, a + 6 + l[j].length ≤ k) : whole l k = j ∧ a = total (l.take j) := by
  obtain ⟨h1, h2, h3, h4⟩ := h
  refine ⟨?_, h2⟩
  rw [h4]
  by_cases hj : j < l.length
  · rw [List.drop_eq_getElem_cons hj]
    unfold whole
    rw [if_neg (fun hc => hn ⟨hj, by omega⟩)]
    rfl
  · rw [List.drop_eq_nil_of_le (by omega)]
    rfl

/-! ### What was spoilt -/
theorem be4_inj {a b : Nat} (ha : a < 4294967296) (hb : b < 4294967296) (h : be4 a = be4 b) : a = b := by
  have hv : ∀ s : Nat, s < 4294967296 → 16777216 * ((be4 s)[0]'(by simp [be4])).toNat + 65536 * ((be4 s)[1]'(by simp [be4])).toNat + 256 * ((be4 s)[2]'(by simp [be4])).toNat + ((be4 s)[3]'(by simp [be4])).toNat = s := by
    intro s hs
    show 16777216 * (UInt8.ofNat (s / 16777216)).toNat + 65536 * (UInt8.ofNat (s / 65536)).toNat + 256 * (UInt8.ofNat (s / 256)).toNat + (UInt8.ofNat s).toNat = s
    rw [UInt8.toNat_ofNat', UInt8.toNat_ofNat', UInt8.toNat_ofNat', UInt8.toNat_ofNat']
    omega
  have h1 := hv a ha
  have h2 := hv b hb
  simp only [h] at h1
  omega
/-- A change within 32 bits changes the sum, whatever stands ahead. -/
theorem burst_at {p l c : Bytes} {v at_ : Nat} (hl : c.length = l.length) (ha : at_ ≤ 8 * l.length) (hv : v < 4294967296) (h0 : v ≠ 0) (h : Cr.wd c = Cr.wd l ^^^ v * 2 ^ at_) : Cr.sum (p ++ c) ≠ Cr.sum (p ++ l) := by
  intro he
  unfold Cr.sum Cr.more at he
  have h1 : ∀ a b : Nat, Cr.mx ^^^ a = Cr.mx ^^^ b → a = b := fun a b hab => by rw [← Cr.mx_mx a, hab, Cr.mx_mx]
  have h2 := h1 _ _ he
  rw [Cr.go_app, Cr.go_app, Cr.go_wd c, Cr.go_wd l, hl, h, ← Nat.xor_assoc, Cr.sts_xor _ (_ ^^^ Cr.wd l)] at h2
  have h3 := Cr.xor_eq_left h2
  rw [show 8 * l.length = at_ + (8 * l.length - at_) by omega, Cr.sts_add, Cr.sts_double] at h3
  exact h0 (Cr.sts_eq_zero _ _ hv h3)
/-- A record that stands under another one's sum is not told. -/
theorem one_spoilt {x y : Bytes} (h : ok x = true) (hl : y.length = x.length) (hs : Cr.sum (be2 x.length ++ y) ≠ Cr.sum (be2 x.length ++ x)) (r : Bytes) : one (be2 x.length ++ (be4 (Cr.sum (be2 x.length ++ x)) ++ y) ++ r) = none := by
  cases ho : one (be2 x.length ++ (be4 (Cr.sum (be2 x.length ++ x)) ++ y) ++ r) with
  | none => rfl
  | some q =>
    exfalso
    obtain ⟨z, r'⟩ := q
    obtain ⟨h1, h2⟩ := one_is ho
    have h3 := congrArg len h2
    rw [len_frame h1, List.append_assoc, be2_val (by have := (ok_iff x).1 h; omega)] at h3
    rw [frame, ← h3, List.append_assoc, List.append_assoc, List.append_assoc, List.append_assoc] at h2
    have h4 := List.append_cancel_left h2
    have h5 := List.append_inj h4 (by simp [be4])
    have h6 := List.append_inj h5.2 (by omega)
    rw [h6.1] at hs
    exact hs (be4_inj (Cr.sum_lt _) (Cr.sum_lt _) h5.1.symm)
end Fr
end Go.Proofs.YtfceljbmdcbciaaDoor
