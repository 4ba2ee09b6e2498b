/- The call KvCodes answers true. Condition: the table of sums reads as its text lays it. Lists of bytes that came in: from their readings to their cells. No condition. -/
import Derived.Test.YtoaihehoediegaaDoorMg38
import Derived.Test.YtoaihehoediegaaDoorMg39
import Derived.Test.YtoaihehoediegaaDoorMg40
import Derived.Test.YtoaihehoediegaaDoorMg41
import Derived.Test.YtoaihehoediegaaDoorMg42
import Derived.Test.YtoaihehoediegaaDoorMg05
import Derived.Deep.Grids
import Derived.Deep.Slices
namespace Go.Proofs.YtoaihehoediegaaDoor
set_option maxRecDepth 8000
open Go.RowKit

namespace Kv
def codeOf {α : Type} (r : Except Nat α) : Int := match r with | .ok _ => 0 | .error k => k
def valOf {α : Type} (r : Except Nat (List α)) : List α := match r with | .ok x => x | .error _ => []
theorem encode_zero {l : List C} (h : codeOf (encode l) = 0) : encode l = .ok (valOf (encode l)) := by
  unfold encode at h ⊢
  split at h
  · next ha =>
    rw [if_pos ha]
    split at h
    · exact absurd h (by decide)
    · next hn =>
      rw [if_neg hn]
      rfl
  · exact absurd h (by decide)
theorem decode_zero {b : Bytes} (h : codeOf (decode b) = 0) : decode b = .ok (valOf (decode b)) := by
  unfold decode at h ⊢
  split at h
  · exact absurd h (by decide)
  · next hn =>
    rw [if_neg hn]
    cases hd : dec b with
    | none =>
      rw [hd] at h
      exact absurd h (by decide)
    | some l => rfl
theorem enc_three : ∀ (l : List C), l.all right = true → l.length ≤ (enc l).length
  | [], _ => Nat.zero_le _
  | c :: r, h => by
    rw [List.all_cons, Bool.and_eq_true] at h
    have h1 := one_len h.1
    have h2 := enc_three r h.2
    rw [enc_cons, List.length_append, List.length_cons]
    omega
theorem decode_len (b : Bytes) : (valOf (decode b)).length ≤ b.length := by
  cases hd : decode b with
  | error k => exact Nat.zero_le _
  | ok l =>
    have he := encode_decode hd
    unfold encode at he
    split at he
    · next ha =>
      split at he
      · cases he
      · injection he with he
        have := enc_three l ha
        rw [he] at this
        exact this
    · cases he
end Kv
/-- Bytes and a code are told. -/
def Told (w : World) (x : List UInt8) (k : Int) (e : Ending) (w' : World) : Prop :=
  ∃ A c, e = .returned (.tuple #[.slice A x.length c, .int .i64 k]) ∧ BCells w' w'.heap.size A x ∧ x.length ≤ c ∧ c ≤ 9223372036854775807 ∧ Below w.heap.size w w'
def ToldC (w : World) (x : List Kv.C) (k : Int) (e : Ending) (w' : World) : Prop :=
  ∃ A c, e = .returned (.tuple #[.slice A x.length c, .int .i64 k]) ∧ ChIn w' w'.heap.size A x ∧ Below w.heap.size w w'
theorem EncP.told {w w' : World} {r : Except Nat (List UInt8)} {e : Ending} (h : EncP w r e w') : Told w (Kv.valOf r) (Kv.codeOf r) e w' := by
  obtain ⟨hb, h⟩ := h
  cases r with
  | error k => exact ⟨none, 0, h, fun hn => absurd hn (Nat.lt_irrefl 0), Nat.le_refl _, by decide, hb⟩
  | ok x =>
    obtain ⟨A, c, he, hr⟩ := h
    have hc := row_cap hr
    exact ⟨A, c, he, row_in hr, hc.1, hc.2, hb⟩
theorem DecP.told {w w' : World} {r : Except Nat (List Kv.C)} {e : Ending} (h : DecP w r e w') : ToldC w (Kv.valOf r) (Kv.codeOf r) e w' := by
  obtain ⟨hb, h⟩ := h
  cases r with
  | error k => exact ⟨none, 0, h, fun hn => absurd hn (Nat.lt_irrefl 0), hb⟩
  | ok x =>
    obtain ⟨A, c, he, hr⟩ := h
    exact ⟨A, c, he, hr.chin, hb⟩
theorem same_self (w : World) (A A' : Option Addr) (x : List UInt8) (c c' : Nat) (h : BCells w w.heap.size A x) (h' : BCells w w.heap.size A' x) :
    Calls Tryd.prog 28 #[.slice A x.length c, .slice A' x.length c'] w fun e w' => e = .returned (.bool true) ∧ w = w' :=
  (same_any w A A' x x c c' h h').mono fun e w' ⟨he, hw⟩ => ⟨by rw [he, decide_eq_true rfl], hw⟩
theorem changes_self (w : World) (A A' : Option Addr) (x : List Kv.C) (c c' : Nat) (h : ChIn w w.heap.size A x) (h' : ChIn w w.heap.size A' x) (hl : x.length ≤ 1048576) :
    Calls Tryd.prog 27 #[.slice A x.length c, .slice A' x.length c'] w fun e w' => e = .returned (.bool true) ∧ Below w.heap.size w w' :=
  (kvChanges_any w A A' x.length x.length c c' x x rfl rfl h h' hl).mono fun e w' ⟨he, hw⟩ => ⟨by rw [he, decide_eq_true rfl], hw⟩

set_option maxHeartbeats 6400000 in
theorem kvCodes_any (A0 A1 : Option Addr) (c0 c1 : Nat) (l : List Kv.C) (b : List UInt8) (w : World) (hH : Hs w) (hz : 0 < w.heap.size) (h : ChIn w w.heap.size A0 l) (hb : BCells w w.heap.size A1 b) (hc1 : b.length ≤ c1) (hm1 : c1 ≤ 9223372036854775807) :
    Calls Tryd.prog 4 #[.slice A0 l.length c0, .slice A1 b.length c1] w fun e w' => e = .returned (.bool true) ∧ Below w.heap.size w w' := by
  have HAW := Lib.hid (awake11_any w hH hz)
  by_cases hl20 : 20 < l.length
  · have hI : (20 : Int) < (l.length : Int) := by omega
    clear h hb hH hz
    go_enter Tryd.func4, Tryd.ntmps4
    go_wp2_with fail
    refine HAW.out.mono ?_
    rintro e w1 ⟨rfl, hb1⟩
    go_wp2_with fail
    go_ret
    exact ⟨rfl, hb1⟩
  by_cases hq500 : 500 < b.length
  · have hI : ¬ (20 : Int) < (l.length : Int) := by omega
    have hJ : (500 : Int) < (b.length : Int) := by omega
    clear h hb hH hz
    go_enter Tryd.func4, Tryd.ntmps4
    go_wp2_with fail
    refine HAW.out.mono ?_
    rintro e w1 ⟨rfl, hb1⟩
    go_wp2_with fail
    go_ret
    exact ⟨rfl, hb1⟩
  have hI : ¬ (20 : Int) < (l.length : Int) := by omega
  have hJ : ¬ (500 : Int) < (b.length : Int) := by omega
  have HC := Lib.hid h
  have HBC := Lib.hid hb
  have HLN := Lib.hid (And.intro hl20 (And.intro hq500 (And.intro hc1 hm1)))
  clear h hb hH hz hl20 hq500 hc1 hm1
  go_enter Tryd.func4, Tryd.ntmps4
  go_wp2_with fail
  refine HAW.out.mono ?_
  rintro e w1 ⟨rfl, hb1⟩
  have HB1 := Lib.hid hb1
  have hcw := HC.out.next hb1
  clear hb1 HAW
  have HCW := Lib.hid hcw
  clear hcw
  go_wp2_with fail
  go_loopw [6] (fun iv wr => ∃ k : Nat, k ≤ l.length ∧ iv = .int .i64 k ∧ wr = w1) (fun iv _ => l.length - (intOf iv).toNat)
  case atStart => exact ⟨0, Nat.zero_le _, rfl, rfl⟩
  case round =>
    obtain ⟨k, hk, rfl, rfl⟩ := hrel
    by_cases hlt : k < l.length
    · obtain ⟨gb, go, rfl, hgl, hcc⟩ := HCW.out (by omega)
      obtain ⟨k1, k2, k3⟩ := hcc k hlt
      have hkI : (k : Int) < (l.length : Int) := by omega
      have hk0 : (0 : Int) ≤ (k : Int) := by omega
      generalize l[k] = x at k1 k2 k3
      clear hcc hgl
      by_cases hs1 : (80 : Int) < ((S x.k).size : Int)
      · go_wp2_with fail
        go_ret
        exact ⟨rfl, HB1.out⟩
      · by_cases hs2 : (320 : Int) < ((S x.v).size : Int)
        · go_wp2_with fail
          go_ret
          exact ⟨rfl, HB1.out⟩
        · go_wp2_with fail
          go_roundw
          case rel => exact ⟨k + 1, by omega, by go_num, trivial⟩
          case measure => simp [intOf]; omega
    · clear hk
      have hkI : ¬ (k : Int) < (l.length : Int) := by omega
      obtain ⟨x, hx⟩ : ∃ x, x = Kv.valOf (Kv.encode l) := ⟨_, rfl⟩
      obtain ⟨xk, hxk0⟩ : ∃ k, k = Kv.codeOf (Kv.encode l) := ⟨_, rfl⟩
      obtain ⟨y, hy⟩ : ∃ y, y = Kv.valOf (Kv.decode b) := ⟨_, rfl⟩
      obtain ⟨dk, hdk0⟩ : ∃ k, k = Kv.codeOf (Kv.decode b) := ⟨_, rfl⟩
      have hyl : y.length ≤ 500 := by
        have h1 := Kv.decode_len b
        rw [← hy] at h1
        have := HLN.out
        omega
      have HEX := Lib.hid (fun h0 : xk = 0 => Kv.decode_encode (by rw [Kv.encode_zero (hxk0 ▸ h0), ← hx] : Kv.encode l = .ok x))
      have HEY := Lib.hid (fun h0 : dk = 0 => Kv.encode_decode (by rw [Kv.decode_zero (hdk0 ▸ h0), ← hy] : Kv.decode b = .ok y))
      have HEN := Lib.hid ((kvEncode_any wr A0 l.length c0 l rfl HCW.out (by have := HLN.out; omega)).mono fun e w' h => h.told)
      rw [← hx, ← hxk0] at HEN
      have HRE := Lib.hid (fun w' (hb' : Below wr.heap.size wr w') => (kvRefEncode_any w' A0 l.length c0 l rfl (HCW.out.next hb') (by have := HLN.out; omega)).mono fun e w'' h => h.told)
      simp only [← hx, ← hxk0] at HRE
      have HBI := Lib.hid (fun w' (hb' : Below wr.heap.size wr w') => (HBC.out.next HB1.out).next hb')
      have HLI := Lib.hid (fun w' (hb' : Below wr.heap.size wr w') => HCW.out.next hb')
      have HDE := Lib.hid (fun w' (hb' : Below wr.heap.size wr w') => (kvDecode_any w' A1 b.length c1 b rfl (HBI.out w' hb') HLN.out.2.2.1 HLN.out.2.2.2).mono fun e w'' h => h.told)
      simp only [← hy, ← hdk0] at HDE
      have HRD := Lib.hid (fun w' (hb' : Below wr.heap.size wr w') => (kvRefDecode_any w' A1 b.length c1 b rfl (HBI.out w' hb') HLN.out.2.2.1 HLN.out.2.2.2 (by have := HLN.out; omega)).mono fun e w'' h => h.told)
      simp only [← hy, ← hdk0] at HRD
      clear hx hxk0 hy hdk0
      go_wp2_with fail
      refine HEN.out.mono ?_
      rintro e w2 ⟨Ax, cx, rfl, hax, hxc, hxm, hb2⟩
      go_wp2_with fail
      refine (HRE.out w2 hb2).mono ?_
      rintro e w3 ⟨Ay, cy, rfl, hay, hyc, hym, hb3⟩
      have hb13 := hb2.trans (hb3.mono hb2.size)
      go_wp2_with fail
      refine (HDE.out w3 hb13).mono ?_
      rintro e w4 ⟨Ac, cc, rfl, hac, hb4⟩
      have hb14 := hb13.trans (hb4.mono hb13.size)
      go_wp2_with fail
      refine (HRD.out w4 hb14).mono ?_
      rintro e w5 ⟨Ad, cd, rfl, had, hb5⟩
      have HB5 := Lib.hid (hb14.trans (hb5.mono hb14.size))
      have hb35 := hb4.trans (hb5.mono hb4.size)
      have hb25 := hb3.trans (hb35.mono hb3.size)
      have hx5 := hax.next hb25
      have hy5 := hay.next hb35
      have hc5 := hac.next hb5
      have HSXY := Lib.hid (fun w' (hb' : Below w5.heap.size w5 w') => same_self w' Ax Ay x cx cy (hx5.next hb') (hy5.next hb'))
      have HCCD := Lib.hid (fun w' (hb' : Below w5.heap.size w5 w') => changes_self w' Ac Ad y cc cd (hc5.next hb') (had.next hb') (by omega))
      have HDX := Lib.hid (fun (h0 : xk = 0) w' (hb' : Below w5.heap.size w5 w') => by
        have h1 := (kvDecode_any w' Ax x.length cx x rfl (hx5.next hb') hxc hxm).mono fun e w'' h => h.told
        rw [HEX.out h0] at h1
        exact h1)
      have HED := Lib.hid (fun (h0 : dk = 0) w' (hb' : Below w5.heap.size w5 w') => by
        have h1 := (kvEncode_any w' Ac y.length cc y rfl (hc5.next hb') (by omega)).mono fun e w'' h => h.told
        rw [HEY.out h0] at h1
        exact h1)
      clear hax hxc hxm hb2 hay hyc hym hb3 hb13 hac hb4 hb14 had hb5 hb35 hb25 hx5 hy5 hc5 HEN HRE HDE HRD HEX HEY HCW
      by_cases hxk : xk = 0
      · have HDX' := HDX.out hxk
        go_wp2_with fail
        refine (HDX' w5 (Below.refl _ _)).mono ?_
        rintro e w6 ⟨Am, cm, rfl, hm, hb6⟩
        have HCM := Lib.hid (changes_self w6 Am A0 l cm c0 hm (HLI.out w6 (HB5.out.trans (hb6.mono HB5.out.size))) (by have := HLN.out; omega))
        have HB6 := Lib.hid hb6
        clear hm hb6 HDX'
        subst hxk
        go_wp2_with fail
        refine HCM.out.mono ?_
        rintro _ w7 ⟨rfl, hb7⟩
        have hb57 := HB6.out.trans (hb7.mono HB6.out.size)
        clear HCM HB6 hb7
        by_cases hdk : dk = 0
        · have HED' := HED.out hdk
          go_wp2_with fail
          refine (HED' w7 hb57).mono ?_
          rintro e w8 ⟨Ag, cg, rfl, hg, hgc, hgm, hb8⟩
          have hb58 := hb57.trans (hb8.mono hb57.size)
          have HSG := Lib.hid (same_self w8 Ag A1 b cg c1 hg (HBI.out w8 (HB5.out.trans (hb58.mono HB5.out.size))))
          clear hg hgc hgm hb8 HED'
          subst hdk
          go_wp2_with fail
          refine HSG.out.mono ?_
          rintro _ _ ⟨rfl, rfl⟩
          go_wp2_with fail
          refine (HSXY.out w8 hb58).mono ?_
          rintro _ _ ⟨rfl, rfl⟩
          go_wp2_with fail
          refine (HCCD.out w8 hb58).mono ?_
          rintro _ w9 ⟨rfl, hb9⟩
          have hbf := (HB1.out.trans ((HB5.out.trans (hb58.mono HB5.out.size)).mono HB1.out.size)).trans (hb9.mono (Nat.le_trans HB1.out.size (Nat.le_trans HB5.out.size hb58.size)))
          go_wp2_with fail
          go_ret
          exact ⟨rfl, hbf⟩
        · go_wp2_with fail
          refine (HSXY.out w7 hb57).mono ?_
          rintro _ _ ⟨rfl, rfl⟩
          go_wp2_with fail
          refine (HCCD.out w7 hb57).mono ?_
          rintro _ w9 ⟨rfl, hb9⟩
          have hbf := (HB1.out.trans ((HB5.out.trans (hb57.mono HB5.out.size)).mono HB1.out.size)).trans (hb9.mono (Nat.le_trans HB1.out.size (Nat.le_trans HB5.out.size hb57.size)))
          go_wp2_with fail
          go_ret
          exact ⟨rfl, hbf⟩
      · have hb55 := Below.refl w5.heap.size w5
        by_cases hdk : dk = 0
        · have HED' := HED.out hdk
          go_wp2_with fail
          refine (HED' w5 hb55).mono ?_
          rintro e w8 ⟨Ag, cg, rfl, hg, hgc, hgm, hb8⟩
          have hb58 := hb55.trans (hb8.mono hb55.size)
          have HSG := Lib.hid (same_self w8 Ag A1 b cg c1 hg (HBI.out w8 (HB5.out.trans (hb58.mono HB5.out.size))))
          clear hg hgc hgm hb8 HED'
          subst hdk
          go_wp2_with fail
          refine HSG.out.mono ?_
          rintro _ _ ⟨rfl, rfl⟩
          go_wp2_with fail
          refine (HSXY.out w8 hb58).mono ?_
          rintro _ _ ⟨rfl, rfl⟩
          go_wp2_with fail
          refine (HCCD.out w8 hb58).mono ?_
          rintro _ w9 ⟨rfl, hb9⟩
          have hbf := (HB1.out.trans ((HB5.out.trans (hb58.mono HB5.out.size)).mono HB1.out.size)).trans (hb9.mono (Nat.le_trans HB1.out.size (Nat.le_trans HB5.out.size hb58.size)))
          go_wp2_with fail
          go_ret
          exact ⟨rfl, hbf⟩
        · go_wp2_with fail
          refine (HSXY.out w5 hb55).mono ?_
          rintro _ _ ⟨rfl, rfl⟩
          go_wp2_with fail
          refine (HCCD.out w5 hb55).mono ?_
          rintro _ w9 ⟨rfl, hb9⟩
          have hbf := (HB1.out.trans ((HB5.out.trans (hb55.mono HB5.out.size)).mono HB1.out.size)).trans (hb9.mono (Nat.le_trans HB1.out.size (Nat.le_trans HB5.out.size hb55.size)))
          go_wp2_with fail
          go_ret
          exact ⟨rfl, hbf⟩
end Go.Proofs.YtoaihehoediegaaDoor
namespace Go.Proofs.YtoaihehoediegaaDoor
set_option maxRecDepth 8000
open Go.ChangeShapes Go.WideShapes Go.ChangeAt Go.WideMaps Go.WideElems Go.RowKit

theorem Tryd.cellsBytes : Tryd.prog.cellsOf 36 = 1 := by kernel_rfl
theorem open_bytesV {H : Type} {enc : TypeId × Value → H} {W : World} {base0 : Nat} {sp : Nat → Bool} {held : Bool} {fuel : Nat} {v : Value} {x : DataW H × List MemPlace}
    (hf : DataW.trod enc Tryd.prog W base0 sp held fuel 36 [v] = some x) :
    ∃ (A : Option Addr) (c : Nat) (l : List UInt8), v = .slice A l.length c ∧ BCells W W.heap.size A l ∧ l.length ≤ c ∧ c ≤ 9223372036854775807 := by
  rcases open_ints Tryd.underlying36 Tryd.underlying5 Tryd.cellsByte hf with ⟨hcs, _⟩ | ⟨a, len', cap', zs, hcs, _⟩
  · simp only [List.cons.injEq, and_true] at hcs
    exact ⟨none, 0, [], hcs, fun h => absurd h (by simp), Nat.le_refl _, by omega⟩
  · simp only [List.cons.injEq, and_true] at hcs
    subst hcs
    obtain ⟨l, h1, h2, h3, h4⟩ := open_bytes hf
    exact ⟨some a, cap', l, by rw [h1], h2, by omega, h4⟩
theorem open_lists {H : Type} {enc : TypeId × Value → H} {W : World} {base0 : Nat} {held : Bool} {fuel : Nat} {a0 : Option Addr} {len cap : Nat} {x : DataW H × List MemPlace}
    (hf : DataW.trod enc Tryd.prog W base0 (fun _ => true) held fuel 37 [.slice a0 len cap] = some x) :
    ∃ l : List (List UInt8), l.length = len ∧ LC W W.heap.size a0 l ∧ len ≤ cap ∧ cap ≤ 9223372036854775807 ∧ ∀ b ∈ l, b.length ≤ 9223372036854775807 := by
  rcases Deep.open_slice1 Tryd.underlying37 Tryd.cellsBytes hf with ⟨hcs, _⟩ | ⟨a, len', cap', m, n, V, D, Pl, hcs, _, hlc, hcm, hmm, _, hx⟩
  · simp only [List.cons.injEq, Value.slice.injEq, and_true] at hcs
    obtain ⟨rfl, rfl, rfl⟩ := hcs
    exact ⟨[], rfl, fun h => absurd h (by simp), by omega, by omega, fun b hb => absurd hb (by simp)⟩
  · simp only [List.cons.injEq, Value.slice.injEq, and_true] at hcs
    obtain ⟨rfl, rfl, rfl⟩ := hcs
    have hle : len ≤ m := by rw [hmm]; split <;> omega
    have hs : ∀ i, i < len → ∃ q : Option Addr × Nat × List UInt8, W.cell? (a.add i) = some (.slice q.1 q.2.2.length q.2.1) ∧ BCells W W.heap.size q.1 q.2.2 ∧ q.2.2.length ≤ 9223372036854775807 := by
      intro i hi
      obtain ⟨h1, h2⟩ := hx i (by omega)
      obtain ⟨A, c, l, e, hb, hlc', hcm'⟩ := open_bytesV h2
      exact ⟨(A, c, l), by rw [h1, e], hb, by show l.length ≤ _; omega⟩
    obtain ⟨q, hq⟩ := Deep.choose_lt (α := Option Addr × Nat × List UInt8) hs
    refine ⟨(List.range len).map fun i => (q i).2.2, by simp, fun hn => ?_, hlc, by unfold maxLen at hcm; omega, fun b hb => ?_⟩
    · have hn' : 0 < len := by simpa using hn
      obtain ⟨b, off, spot⟩ := a
      have h00 := (hq 0 hn').1
      have hspot : spot = none := by simpa [Addr.add] using World.cell?_spot h00
      subst hspot
      have hadd : ∀ j, (⟨b, off, none⟩ : Addr).add j = ⟨b, off + j, none⟩ := fun j => Addr.add_mid b off j
      refine ⟨b, off, rfl, ?_, fun k hk => ?_⟩
      · have := World.block_lt_of_cell? W _ h00
        rw [hadd] at this
        exact this
      · have hk' : k < len := by simpa using hk
        have e : ((List.range len).map fun i => (q i).2.2)[k] = (q k).2.2 := by simp
        rw [e]
        have h1 := (hq k hk').1
        rw [hadd] at h1
        exact ⟨(q k).1, (q k).2.1, h1, (hq k hk').2.1⟩
    · obtain ⟨i, hi, rfl⟩ := List.mem_map.1 hb
      exact (hq i (List.mem_range.1 hi)).2.2
end Go.Proofs.YtoaihehoediegaaDoor
