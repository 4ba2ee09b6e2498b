/- Lists of bytes as they lie in memory; the document's Few, Lists and Same. Can a change be: the program's right, and the document's Right. No condition but that texts' lengths are an int's. -/
import Derived.Test.YtfceljbmdcbciaaDoorMg04
import Derived.Lib.BufferRead
import Derived.Lib.SlBytesConst
import Derived.Lib.Strings
namespace Go.Proofs.YtfceljbmdcbciaaDoor
set_option maxRecDepth 8000
open Go.RowKit

def S (l : List UInt8) : ByteArray := ⟨l.toArray⟩
theorem bin_string (w : World) (A : Option Addr) (l : List UInt8) (c : Nat) (h : BCells w w.heap.size A l) : (convert 36 9 (.slice A l.length c)).run Tryd.prog w = .ok (.string (S l)) w := by
  have hgo : ∀ ad : Addr, (∀ j (hj : j < l.length), w.cell? (ad.add j) = some (.int .u8 (l[j].toNat : Int))) → (convert 36 9 (.slice (some ad) l.length c)).run Tryd.prog w = .ok (.string (S l)) w := fun ad hc =>
    run_convert_bytes_back w 36 9 5 ad c l Tryd.underlying36 Tryd.underlying5 Tryd.underlying9 hc
  rcases Nat.eq_zero_or_pos l.length with h0 | h0
  · rcases A with _ | ad
    · have : l = [] := List.length_eq_zero_iff.1 h0
      subst this
      exact Lib.run_convert_nil_bytes w 36 9 5 c Tryd.underlying36 Tryd.underlying5 Tryd.underlying9
    · exact hgo ad (fun j hj => absurd hj (by omega))
  · obtain ⟨b, off, rfl, _, hc⟩ := h h0
    exact hgo _ (fun j hj => by rw [Addr.add_mid]; exact hc j hj)
theorem S_list (l : List UInt8) : (S l).toList = l := by rw [Lib.toList_data]; rfl
theorem S_eq (l l' : List UInt8) : ((S l).toList == (S l').toList) = decide (l = l') := by
  rw [S_list, S_list, Bool.eq_iff_iff, beq_iff_eq, decide_eq_true_eq]

theorem same_any (w : World) (A A' : Option Addr) (l l' : List UInt8) (c c' : Nat) (h : BCells w w.heap.size A l) (h' : BCells w w.heap.size A' l') :
    Calls Tryd.prog 56 #[.slice A l.length c, .slice A' l'.length c'] w fun e w' => e = .returned (.bool (decide (l = l'))) ∧ w = w' := by
  have h1 := bin_string w A l c h
  have h2 := bin_string w A' l' c' h'
  obtain ⟨n, hn⟩ : ∃ n, n = l.length := ⟨_, rfl⟩
  obtain ⟨n', hn'⟩ : ∃ n, n = l'.length := ⟨_, rfl⟩
  rw [← hn] at h1 ⊢
  rw [← hn'] at h2 ⊢
  clear hn hn'
  go_enter Tryd.func56, Tryd.ntmps56
  go_wp2_with fail
  go_ret
  exact ⟨ret_bool (S_eq l l'), rfl⟩

/-- The address A holds slices of the bytes of l, one behind the other, all below bd. -/
def LC (w : World) (bd : Nat) (A : Option Addr) (l : List (List UInt8)) : Prop :=
  0 < l.length → ∃ b off, A = some ⟨b, off, none⟩ ∧ b < bd ∧ ∀ k (h : k < l.length), ∃ Ak ck, w.cell? ⟨b, off + k, none⟩ = some (.slice Ak l[k].length ck) ∧ BCells w bd Ak l[k]
theorem BCells.keepB {w w' : World} {bd bd' : Nat} {A : Option Addr} {l : List UInt8} (h : BCells w bd A l) (hb : Below bd' w w') (hle : bd ≤ bd') : BCells w' bd A l := fun hn => by
  obtain ⟨b, off, e, hlt, hc⟩ := h hn
  exact ⟨b, off, e, hlt, fun k hk => (hb.cell (p := ⟨b, off + k, none⟩) (Nat.lt_of_lt_of_le hlt hle)).trans (hc k hk)⟩
theorem BCells.moreB {w : World} {bd bd' : Nat} {A : Option Addr} {l : List UInt8} (h : BCells w bd A l) (hle : bd ≤ bd') : BCells w bd' A l := fun hn => by
  obtain ⟨b, off, e, hlt, hc⟩ := h hn
  exact ⟨b, off, e, Nat.lt_of_lt_of_le hlt hle, hc⟩
theorem BCells.next {w w' : World} {A : Option Addr} {l : List UInt8} (h : BCells w w.heap.size A l) (hb : Below w.heap.size w w') : BCells w' w'.heap.size A l := (h.keepB hb (Nat.le_refl _)).moreB hb.size
theorem LC.keepB {w w' : World} {bd bd' : Nat} {A : Option Addr} {l : List (List UInt8)} (h : LC w bd A l) (hb : Below bd' w w') (hle : bd ≤ bd') : LC w' bd A l := fun hn => by
  obtain ⟨b, off, e, hlt, hc⟩ := h hn
  refine ⟨b, off, e, hlt, fun k hk => ?_⟩
  obtain ⟨Ak, ck, h1, h2⟩ := hc k hk
  exact ⟨Ak, ck, (hb.cell (p := ⟨b, off + k, none⟩) (Nat.lt_of_lt_of_le hlt hle)).trans h1, h2.keepB hb hle⟩
theorem LC.moreB {w : World} {bd bd' : Nat} {A : Option Addr} {l : List (List UInt8)} (h : LC w bd A l) (hle : bd ≤ bd') : LC w bd' A l := fun hn => by
  obtain ⟨b, off, e, hlt, hc⟩ := h hn
  refine ⟨b, off, e, Nat.lt_of_lt_of_le hlt hle, fun k hk => ?_⟩
  obtain ⟨Ak, ck, h1, h2⟩ := hc k hk
  exact ⟨Ak, ck, h1, h2.moreB hle⟩
theorem LC.next {w w' : World} {A : Option Addr} {l : List (List UInt8)} (h : LC w w.heap.size A l) (hb : Below w.heap.size w w') : LC w' w'.heap.size A l := (h.keepB hb (Nat.le_refl _)).moreB hb.size
def FewTo (l : List (List UInt8)) (i : Value) : Prop := ∃ k : Nat, k ≤ l.length ∧ i = .int .i64 (k : Int) ∧ (l.take k).all Fr.small = true

set_option maxHeartbeats 800000 in
theorem refFew_any (A : Option Addr) (c n : Nat) (l : List (List UInt8)) (w : World) (hn : l.length = n) (h : LC w w.heap.size A l) (hl : n ≤ 9223372036854775807) (hq : ∀ b ∈ l, b.length ≤ 9223372036854775807) :
    Calls Tryd.prog 41 #[.slice A n c] w fun e w' => e = .returned (.bool (Fr.few l)) ∧ w = w' := by
  have HN := Lib.hid hn
  have HL := Lib.hid h
  clear hn h
  go_enter Tryd.func41, Tryd.ntmps41
  go_wp2_with fail
  go_loop [3] (fun i => FewTo l i) (fun i => n - (intOf i).toNat)
  case atStart => exact ⟨0, Nat.zero_le _, rfl, by rw [List.take_zero]; rfl⟩
  case round =>
    obtain ⟨k, hk, rfl, hall⟩ := hrel
    have HALL := Lib.hid hall
    have hnl := HN.out
    clear hall
    by_cases hlt : k < n
    · have hkl : k < l.length := by omega
      obtain ⟨b, off, rfl, hbb, hc⟩ := HL.out (by omega)
      obtain ⟨Ak, ck, c0, hx0⟩ := hc k hkl
      have hm := hq l[k] (List.getElem_mem hkl)
      have HBAD : Hid (Fr.small l[k] = false → Fr.few l = false) := Lib.hid (fun h => by
        unfold Fr.few
        rw [List.all_eq_false.2 ⟨_, List.getElem_mem hkl, by rw [h]; decide⟩, Bool.false_and])
      have HSN : Hid (Fr.small l[k] = true → (l.take (k + 1)).all Fr.small = true) := Lib.hid (fun h => by
        rw [List.take_succ_eq_append_getElem hkl, List.all_append, HALL.out, List.all_cons, h]; rfl)
      have HSM : Hid (Fr.small l[k] = !(decide (100 < l[k].length) && decide (l[k].length ≤ 4000))) := Lib.hid rfl
      obtain ⟨m, hmm⟩ : ∃ m, m = l[k].length := ⟨_, rfl⟩
      rw [← hmm] at c0 HSM hm
      obtain ⟨sm, hsm⟩ : ∃ q, q = Fr.small l[k] := ⟨_, rfl⟩
      rw [← hsm] at HBAD HSN HSM
      have j0 : (0 : Int) ≤ (k : Int) := by omega
      have j1 : (k : Int) < (n : Int) := by omega
      clear hx0 hmm hsm hkl hc hnl
      by_cases h1 : 100 < m
      · have i1 : (100 : Int) < (m : Int) := by omega
        by_cases h2 : m ≤ 4000
        · have i2 : (m : Int) ≤ 4000 := by omega
          have HF : Hid (Fr.few l = false) := Lib.hid (HBAD.out (by rw [HSM.out, decide_eq_true h1, decide_eq_true h2]; rfl))
          go_wp2_with fail
          go_ret
          exact ⟨ret_bool HF.out.symm, rfl⟩
        · have i2 : ¬ (m : Int) ≤ 4000 := by omega
          have HT := Lib.hid (HSN.out (by rw [HSM.out, decide_eq_false h2, Bool.and_false]; rfl))
          go_wp2_with fail
          go_round
          case rel => exact ⟨k + 1, by have := HN.out; omega, by go_num, HT.out⟩
          case measure => simp [intOf]; omega
      · have i1 : ¬ (100 : Int) < (m : Int) := by omega
        have HT := Lib.hid (HSN.out (by rw [HSM.out, decide_eq_false h1]; rfl))
        go_wp2_with fail
        go_round
        case rel => exact ⟨k + 1, by have := HN.out; omega, by go_num, HT.out⟩
        case measure => simp [intOf]; omega
    · have hall2 : l.all Fr.small = true := by
        have := HALL.out
        rwa [List.take_of_length_le (by omega)] at this
      have HF : Hid (decide ((n : Int) ≤ 20) = Fr.few l) := Lib.hid (by
        unfold Fr.few
        rw [hall2, hnl, Bool.true_and, Bool.eq_iff_iff, decide_eq_true_eq, decide_eq_true_eq]
        omega)
      clear hall2 hnl
      go_wp2_with fail
      go_ret
      first
        | exact ⟨ret_bool HF.out, rfl⟩
        | exact ⟨ret_bool (by rw [← HF.out]; simp), rfl⟩

def ListsTo (l m : List (List UInt8)) (W : World) (i : Value) (wr : World) : Prop := ∃ k : Nat, k ≤ l.length ∧ i = .int .i64 (k : Int) ∧ l.take k = m.take k ∧ Below W.heap.size W wr
set_option maxHeartbeats 800000 in
theorem refLists_any (A A' : Option Addr) (c c' n n' : Nat) (l m : List (List UInt8)) (w : World) (hn : l.length = n) (hn' : m.length = n') (h : LC w w.heap.size A l) (h' : LC w w.heap.size A' m) (hl : n ≤ 9223372036854775807) :
    Calls Tryd.prog 39 #[.slice A n c, .slice A' n' c'] w fun e w' => e = .returned (.bool (decide (l = m))) ∧ Below w.heap.size w w' := by
  by_cases hne : n = n'
  · subst hne
    have HN := Lib.hid hn
    have HN' := Lib.hid hn'
    have HL := Lib.hid h
    have HL' := Lib.hid h'
    clear hn hn' h h'
    have e0 : ((n : Int) != (n : Int)) = false := by simp
    go_enter Tryd.func39, Tryd.ntmps39
    go_wp2_with fail
    go_loopw [5] (fun i wr => ListsTo l m w i wr) (fun i _ => n - (intOf i).toNat)
    case atStart => exact ⟨0, Nat.zero_le _, rfl, rfl, Below.refl _ _⟩
    case round =>
      obtain ⟨k, hk, rfl, htk, hbe⟩ := hrel
      have HT := Lib.hid htk
      clear htk
      have hnl := HN.out
      have hnl' := HN'.out
      by_cases hlt : k < n
      · have hkl : k < l.length := by omega
        have hkm : k < m.length := by omega
        obtain ⟨b, off, rfl, hbb, hc⟩ := HL.out (by omega)
        obtain ⟨b', off', rfl, hbb', hc'⟩ := HL'.out (by omega)
        obtain ⟨Ak, ck, c0', hx0⟩ := hc k hkl
        obtain ⟨Am, cm, d0', hy0⟩ := hc' k hkm
        have c0 := (hbe.cell (p := ⟨b, off + k, none⟩) hbb).trans c0'
        have d0 := (hbe.cell (p := ⟨b', off' + k, none⟩) hbb').trans d0'
        have HX := Lib.hid (fun (w' : World) (hw : Below w.heap.size w w') => bin_string w' Ak l[k] ck (hx0.keepB hw (Nat.le_refl _) |>.moreB hw.size))
        have HY := Lib.hid (fun (w' : World) (hw : Below w.heap.size w w') => bin_string w' Am m[k] cm (hy0.keepB hw (Nat.le_refl _) |>.moreB hw.size))
        have HEQ : Hid (l[k] = m[k] → l.take (k + 1) = m.take (k + 1)) := Lib.hid (fun h => by
          rw [List.take_succ_eq_append_getElem hkl, List.take_succ_eq_append_getElem hkm, HT.out, h])
        have HNE : Hid (¬ l[k] = m[k] → ¬ l = m) := Lib.hid (fun h h' => h (by subst h'; rfl))
        obtain ⟨x, hx⟩ : ∃ x, x = l[k] := ⟨_, rfl⟩
        obtain ⟨y, hy⟩ : ∃ y, y = m[k] := ⟨_, rfl⟩
        rw [← hx] at c0 HX
        rw [← hy] at d0 HY
        rw [← hx, ← hy] at HEQ HNE
        obtain ⟨xn, hxn⟩ : ∃ z, z = x.length := ⟨_, rfl⟩
        obtain ⟨yn, hyn⟩ : ∃ z, z = y.length := ⟨_, rfl⟩
        rw [← hxn] at c0 HX
        rw [← hyn] at d0 HY
        have i0 : (0 : Int) ≤ (k : Int) := by omega
        have i1 : (k : Int) < (n : Int) := by omega
        have HBE := Lib.hid hbe
        clear hx hy hxn hyn hkl hkm hx0 hy0 hc hc' hnl hnl' c0' d0' hbe
        by_cases hq : x = y
        · have hcmp : ((S x).toList == (S y).toList) = true := by rw [hq]; simp
          have HNX := Lib.hid (HEQ.out hq)
          clear hq
          go_wp2_with fail
          go_region_held3 (fun wx => wx.cell? ⟨b, off + k, none⟩ = some (.slice Ak xn ck) ∧ wx.cell? ⟨b', off' + k, none⟩ = some (.slice Am yn cm) ∧ (convert 36 9 (.slice Ak xn ck)).run Tryd.prog wx = .ok (.string (S x)) wx ∧ (convert 36 9 (.slice Am yn cm)).run Tryd.prog wx = .ok (.string (S y)) wx) (exact ⟨c0, d0, HX.out _ HBE.out.drew, HY.out _ HBE.out.drew⟩) (fail)
          all_goals
            go_wp2_with fail
            go_roundw
            case rel => exact ⟨k + 1, by have := HN.out; omega, by go_num, HNX.out, HBE.out.drew⟩
            case measure => simp [intOf]; omega
        · have hcmp : ((S x).toList == (S y).toList) = false := by rw [S_list, S_list]; simpa using hq
          have HNX := Lib.hid (HNE.out hq)
          clear hq
          go_wp2_with fail
          go_region_held3 (fun wx => wx.cell? ⟨b, off + k, none⟩ = some (.slice Ak xn ck) ∧ wx.cell? ⟨b', off' + k, none⟩ = some (.slice Am yn cm) ∧ (convert 36 9 (.slice Ak xn ck)).run Tryd.prog wx = .ok (.string (S x)) wx ∧ (convert 36 9 (.slice Am yn cm)).run Tryd.prog wx = .ok (.string (S y)) wx) (exact ⟨c0, d0, HX.out _ HBE.out.drew, HY.out _ HBE.out.drew⟩) (fail)
          all_goals
            go_wp2_with fail
            go_ret
            exact ⟨ret_bool (decide_eq_false HNX.out).symm, HBE.out.drew⟩
      · have HE : Hid (l = m) := Lib.hid (by
          have := HT.out
          rwa [List.take_of_length_le (by omega), List.take_of_length_le (by omega)] at this)
        clear hnl hnl'
        go_wp2_with fail
        go_ret
        exact ⟨ret_bool (decide_eq_true HE.out).symm, hbe⟩
  · have hd : ¬ l = m := fun e => hne (by rw [← hn, ← hn', e])
    have e0 : ((n : Int) != (n' : Int)) = true := by simp; omega
    have HD := Lib.hid hd
    clear hd hn hn'
    go_enter Tryd.func39, Tryd.ntmps39
    go_wp2_with fail
    go_ret
    exact ⟨ret_bool (decide_eq_false HD.out).symm, Below.refl _ _⟩
end Go.Proofs.YtfceljbmdcbciaaDoor
namespace Go.Proofs.YtfceljbmdcbciaaDoor
set_option maxRecDepth 8000
open Go.RowKit

/-- A change in memory. -/
def cV (c : Kv.C) : Value := .agg #[.string (S c.k), .string (S c.v), .bool c.g]
theorem S_size (l : List UInt8) : (S l).size = l.length := rfl
theorem right_bools (k v : List UInt8) (g : Bool) : Kv.right ⟨k, v, g⟩ = (!(S k).toList.isEmpty && (decide (((S k).size : Int) ≤ 64) && (decide (((S v).size : Int) ≤ 300) && (!g || (S v).toList.isEmpty)))) := by
  rw [S_list, S_list]
  unfold Kv.right
  have e1 : decide (1 ≤ k.length) = !k.isEmpty := by cases k <;> simp
  have e2 : decide (v = []) = v.isEmpty := by cases v <;> simp
  have e3 : decide (((S k).size : Int) ≤ 64) = decide (k.length ≤ 64) := by rw [S_size]; congr 1; exact propext ⟨fun h => by omega, fun h => by omega⟩
  have e4 : decide (((S v).size : Int) ≤ 300) = decide (v.length ≤ 300) := by rw [S_size]; congr 1; exact propext ⟨fun h => by omega, fun h => by omega⟩
  rw [e3, e4]
  dsimp only
  rw [e1, e2]
set_option maxHeartbeats 3200000 in
theorem kvRight_any (w : World) (c : Kv.C) :
    Calls Tryd.prog 87 #[cV c] w fun e w' => e = .returned (.bool (Kv.right c)) ∧ Below w.heap.size w w' := by
  obtain ⟨k, v, g⟩ := c
  unfold cV
  dsimp only
  have hba : Below w.heap.size w (w.alloc (.cells #[.string (S k), .string (S v), .bool g] 105)) := (Below.refl _ _).alloc (Nat.le_refl _) _
  have HBA := Lib.hid hba
  have HR := Lib.hid (right_bools k v g)
  obtain ⟨ke, hke⟩ : ∃ b, (S k).toList.isEmpty = b := ⟨_, rfl⟩
  obtain ⟨ve, hve⟩ : ∃ b, (S v).toList.isEmpty = b := ⟨_, rfl⟩
  obtain ⟨kl, hkl⟩ : ∃ b, decide (((S k).size : Int) ≤ 64) = b := ⟨_, rfl⟩
  obtain ⟨vl, hvl⟩ : ∃ b, decide (((S v).size : Int) ≤ 300) = b := ⟨_, rfl⟩
  rw [hke, hve, hkl, hvl] at HR
  clear hba
  cases g <;> cases ke <;> cases ve <;> cases kl <;> cases vl
  all_goals
    go_enter Tryd.func87, Tryd.ntmps87
    go_wp2_with fail
    go_ret
    rw [HR.out]
    exact ⟨rfl, HBA.out⟩
end Go.Proofs.YtfceljbmdcbciaaDoor
