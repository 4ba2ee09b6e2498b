/- What package pct's Write does, for any slice of at most 50 pairs of at most 1000 bytes, where the table of digits reads as its text lays it. -/
import Derived.Test.YtndimjkdmhhohaaDoorHelp
import Derived.Test.YtndimjkdmhhohaaDoorBuild
namespace Go.Proofs.YtndimjkdmhhohaaDoor
set_option maxRecDepth 8000
open Go.RowKit

def short1 (q : Pct.PairL) : Bool := decide (q.1.length ≤ 1000) && decide (q.2.length ≤ 1000)

theorem write_snoc (q : Pct.PairL) : ∀ a : List Pct.PairL, a ≠ [] → Pct.write (a ++ [q]) = Pct.write a ++ 38 :: Pct.wr1 q
  | [], h => absurd rfl h
  | [x], _ => rfl
  | x :: y :: r, _ => by
    have ih := write_snoc q (y :: r) (by simp)
    have e1 : Pct.write (x :: y :: r ++ [q]) = Pct.wr1 x ++ 38 :: Pct.write (y :: r ++ [q]) := rfl
    have e2 : Pct.write (x :: y :: r) = Pct.wr1 x ++ 38 :: Pct.write (y :: r) := rfl
    rw [e1, e2, ih]
    simp
theorem write_one (q : Pct.PairL) : Pct.write [q] = Pct.wr1 q := rfl
theorem wr1_len (q : Pct.PairL) (h : short1 q = true) : (Pct.wr1 q).length ≤ 6001 := by
  unfold short1 at h
  simp at h
  unfold Pct.wr1
  have h1 := (Pct.enc_len q.1).2
  have h2 := (Pct.enc_len q.2).2
  simp
  omega
theorem write_len : ∀ l : List Pct.PairL, l.all short1 = true → (Pct.write l).length ≤ 6002 * l.length
  | [], _ => by simp [Pct.write]
  | [q], h => by
    simp only [List.all_cons, List.all_nil, Bool.and_true] at h
    have := wr1_len q h
    rw [write_one]
    simp
    omega
  | q :: y :: r, h => by
    rw [List.all_cons, Bool.and_eq_true] at h
    have ih := write_len (y :: r) h.2
    have := wr1_len q h.1
    have e2 : Pct.write (q :: y :: r) = Pct.wr1 q ++ 38 :: Pct.write (y :: r) := rfl
    rw [e2]
    simp only [List.length_append, List.length_cons] at ih ⊢
    omega
theorem write_ne (l : List Pct.PairL) (h : l ≠ []) : Pct.write l ≠ [] := by
  match l, h with
  | [q], _ => exact Pct.wr1_ne q
  | q :: y :: r, _ =>
    have e2 : Pct.write (q :: y :: r) = Pct.wr1 q ++ 38 :: Pct.write (y :: r) := rfl
    rw [e2]
    simp

/-- The builder in block b holds acc; block g holds a pair; below the call's start nothing has turned. -/
def St (w0 : World) (b : Nat) (acc : List UInt8) (g : Nat) (n v : List UInt8) (w : World) : Prop :=
  Bld w0.heap.size b acc w ∧ w.heap[g]? = some (.cells #[.string (S n), .string (S v)] 41 (0, 0)) ∧ Below w0.heap.size w0 w

section
variable {w0 w : World} {b g : Nat} {acc n v : List UInt8}
theorem St.cell0 (h : St w0 b acc g n v w) : w.cell? ⟨g, 0, none⟩ = some (.string (S n)) := cell_of_row w g 0 _ _ _ h.2.1
theorem St.cell1 (h : St w0 b acc g n v w) : w.cell? ⟨g, 1, none⟩ = some (.string (S v)) := cell_of_row w g 1 _ _ _ h.2.1

theorem st_byte (h : St w0 b acc g n v w) (c : UInt8) (hl : acc.length ≤ 1000000) :
    Calls Tryd.prog 52 #[.pointer (some ⟨b, 0, none⟩), B c] w fun e w' => e = .returned .nilIface ∧ St w0 b (acc ++ [c]) g n v w' :=
  (writeByte_any w0.heap.size b acc c w h.1 (by omega) h.2.2.size).mono fun _ _ ⟨he, hb, hbe, hk⟩ => ⟨he, hb, hk _ _ h.2.1, h.2.2.trans hbe⟩
theorem st_amp (h : St w0 b acc g n v w) (hl : acc.length ≤ 1000000) :
    Calls Tryd.prog 52 #[.pointer (some ⟨b, 0, none⟩), .int .u8 38] w fun e w' => e = .returned .nilIface ∧ St w0 b (acc ++ [38]) g n v w' := st_byte h 38 hl
theorem st_eq (h : St w0 b acc g n v w) (hl : acc.length ≤ 1000000) :
    Calls Tryd.prog 52 #[.pointer (some ⟨b, 0, none⟩), .int .u8 61] w fun e w' => e = .returned .nilIface ∧ St w0 b (acc ++ [61]) g n v w' := st_byte h 61 hl
theorem st_text (h : St w0 b acc g n v w) (s : List UInt8) (hl : acc.length ≤ 1000000) (hs : s.length ≤ 1000000) :
    Calls Tryd.prog 53 #[.pointer (some ⟨b, 0, none⟩), .string (S s)] w fun e w' => e = .returned (.tuple #[.int .i64 ((S s).size : Int), .nilIface]) ∧ St w0 b (acc ++ s) g n v w' :=
  (writeString_any w0.heap.size b acc s w h.1 (by omega) h.2.2.size).mono fun _ _ ⟨he, hb, hbe, hk⟩ => ⟨he, hb, hk _ _ h.2.1, h.2.2.trans hbe⟩
theorem st_enc (h : St w0 b acc g n v w) (hd : Digs w0) (s : List UInt8) (hs : s.length ≤ 1000000) :
    Calls Tryd.prog 54 #[.string (S s)] w fun e w' => e = .returned (.string (S (Pct.enc s))) ∧ St w0 b acc g n v w' :=
  (encode_to s w (hd.below h.2.2 hd.lt) (by omega)).mono fun _ _ ⟨he, hbe⟩ => ⟨he, h.1.below hbe, (hbe.block g (blk_lt h.2.1)).trans h.2.1, h.2.2.trans (hbe.mono h.2.2.size)⟩
end

theorem st_new {w0 wr : World} {b : Nat} {acc : List UInt8} (n v : List UInt8) (h : Bld w0.heap.size b acc wr) (hb : Below w0.heap.size w0 wr) : St w0 b acc wr.heap.size n v (wr.alloc (.cells #[.string (S n), .string (S v)] 41)) :=
  ⟨h.below ((Below.refl _ _).alloc (Nat.le_refl _) _), heap_alloc_new wr _, hb.alloc hb.size _⟩

def FreshB (w : World) (b : Nat) : Prop := w.heap[b]? = some (.cells #[.pointer none, .slice none 0 0] 70 (0, 0))

set_option maxHeartbeats 800000 in
theorem write_any (A : Option Addr) (cap : Nat) (l : List Pct.PairL) (w : World) (hd : Digs w) (hl : PCells w w.heap.size A l) (hall : l.all short1 = true) (h50 : l.length ≤ 50) :
    Calls Tryd.prog 38 #[.slice A l.length cap] w (Told w (.returned (.string (S (Pct.write l))))) := by
  have HALL := Lib.hid hall
  clear hall
  go_enter Tryd.func38, Tryd.ntmps38
  go_wp2
  go_loopw [8] (fun i wr => ∃ k : Nat, k ≤ l.length ∧ i = .int .i64 k ∧ Bld w.heap.size w.heap.size (Pct.write (l.take k)) wr ∧ Below w.heap.size w wr ∧ (k = 0 → FreshB wr w.heap.size)) (fun i _ => l.length - (intOf i).toNat)
  case atStart => exact ⟨0, Nat.zero_le _, rfl, Lib.fresh_isBuilder _ _ w, (Below.refl _ _).alloc (Nat.le_refl _) _, fun _ => heap_alloc_new w _⟩
  case round =>
    obtain ⟨k, hk, rfl, hbld, hb, hfr⟩ := hrel
    have HFR := Lib.hid hfr
    clear hfr
    have HTL := Lib.hid (show (Pct.write (l.take k)).length ≤ 6002 * k by
      have h1 := write_len (l.take k) (by
        rw [List.all_eq_true]
        intro x hx
        exact List.all_eq_true.1 HALL.out x (List.mem_of_mem_take hx))
      have h2 : (l.take k).length ≤ k := List.length_take_le _ _
      omega)
    obtain ⟨acc, hacc⟩ : ∃ acc, acc = Pct.write (l.take k) := ⟨_, rfl⟩
    rw [← hacc] at hbld
    have hal : acc.length ≤ 300100 := by rw [hacc]; have := HTL.out; omega
    have HACC := Lib.hid hacc
    clear hacc HTL
    by_cases hlt : k < l.length
    · obtain ⟨ab, off, rfl, hbb, hc⟩ := hl (by omega)
      obtain ⟨c0', c1'⟩ := hc k hlt
      clear hc
      obtain ⟨n, hn⟩ : ∃ n, n = l[k].1 := ⟨_, rfl⟩
      obtain ⟨v, hv⟩ : ∃ v, v = l[k].2 := ⟨_, rfl⟩
      have hf1 : short1 l[k] = true := List.all_eq_true.1 HALL.out _ (List.getElem_mem hlt)
      have hn60 : n.length ≤ 1000 := by unfold short1 at hf1; simp at hf1; rw [hn]; exact hf1.1
      have hv60 : v.length ≤ 1000 := by unfold short1 at hf1; simp at hf1; rw [hv]; exact hf1.2
      rw [← hn] at c0'
      rw [← hv] at c1'
      have hen : (Pct.enc n).length ≤ 3000 := by have := (Pct.enc_len n).2; omega
      have hev : (Pct.enc v).length ≤ 3000 := by have := (Pct.enc_len v).2; omega
      have c0 : wr.cell? ⟨ab, off + k * 2, none⟩ = some (.string (S n)) := (hb.cell (p := ⟨ab, off + k * 2, none⟩) hbb).trans c0'
      have c1 : wr.cell? ⟨ab, off + k * 2 + 1, none⟩ = some (.string (S v)) := (hb.cell (p := ⟨ab, off + k * 2 + 1, none⟩) hbb).trans c1'
      have i0 : (0 : Int) ≤ (k : Int) := by omega
      have i1 : (k : Int) < (l.length : Int) := by omega
      have st0 := st_new n v hbld hb
      have HNV := Lib.hid (show l[k] = (n, v) by rw [hn, hv])
      clear hn hv hf1 c0' c1' hbld hl
      by_cases h0 : k = 0
      · have HN := Lib.hid (show Pct.write (l.take (k + 1)) = acc ++ Pct.enc n ++ [61] ++ Pct.enc v by
          rw [List.take_succ_eq_append_getElem hlt, HNV.out, HACC.out, h0]
          simp [Pct.write, Pct.wr1])
        have hk0 : (k : Int) ≤ 0 := by omega
        clear h0
        have d0 := st0.cell0
        go_wp2_with fail
        refine (st_enc st0 hd n (by omega)).mono ?_
        rintro e w2 ⟨rfl, st2⟩
        go_wp2_with fail
        refine (st_text st2 (Pct.enc n) (by first | omega | (simp; omega)) (by omega)).mono ?_
        rintro e w3 ⟨rfl, st3⟩
        clear st2
        go_wp2_with fail
        refine (st_eq st3 (by first | omega | (simp; omega))).mono ?_
        rintro e w4 ⟨rfl, st4⟩
        have d1 := st4.cell1
        clear st3
        go_wp2_with fail
        refine (st_enc st4 hd v (by omega)).mono ?_
        rintro e w5 ⟨rfl, st5⟩
        clear st4 d1
        go_wp2_with fail
        refine (st_text st5 (Pct.enc v) (by simp; omega) (by omega)).mono ?_
        rintro e w6 ⟨rfl, st6⟩
        clear st5
        go_wp2
        go_roundw
        case rel => exact ⟨k + 1, by omega, by go_num, by rw [HN.out]; exact st6.1, st6.2.2, fun h => absurd h (by omega)⟩
        case measure => simp [intOf]; omega
      · have HN := Lib.hid (show Pct.write (l.take (k + 1)) = acc ++ [38] ++ Pct.enc n ++ [61] ++ Pct.enc v by
          rw [List.take_succ_eq_append_getElem hlt, HNV.out, write_snoc _ _ (by
            intro h
            have := congrArg List.length h
            rw [List.length_take, Nat.min_eq_left (by omega)] at this
            exact h0 (by simpa using this)), HACC.out]
          simp [Pct.wr1])
        have hk0 : (0 : Int) < (k : Int) := by omega
        clear h0
        go_wp2_with fail
        refine (st_amp st0 (by omega)).mono ?_
        rintro e w1 ⟨rfl, st1⟩
        have d0 := st1.cell0
        clear st0
        go_wp2_with fail
        refine (st_enc st1 hd n (by omega)).mono ?_
        rintro e w2 ⟨rfl, st2⟩
        go_wp2_with fail
        refine (st_text st2 (Pct.enc n) (by first | omega | (simp; omega)) (by omega)).mono ?_
        rintro e w3 ⟨rfl, st3⟩
        clear st2
        go_wp2_with fail
        refine (st_eq st3 (by first | omega | (simp; omega))).mono ?_
        rintro e w4 ⟨rfl, st4⟩
        have d1 := st4.cell1
        clear st3
        go_wp2_with fail
        refine (st_enc st4 hd v (by omega)).mono ?_
        rintro e w5 ⟨rfl, st5⟩
        clear st4 d1
        go_wp2_with fail
        refine (st_text st5 (Pct.enc v) (by simp; omega) (by omega)).mono ?_
        rintro e w6 ⟨rfl, st6⟩
        clear st5
        go_wp2
        go_roundw
        case rel => exact ⟨k + 1, by omega, by go_num, by rw [HN.out]; exact st6.1, st6.2.2, fun h => absurd h (by omega)⟩
        case measure => simp [intOf]; omega
    · have hkl : k = l.length := by omega
      have HW := Lib.hid (show acc = Pct.write l by rw [HACC.out, List.take_of_length_le (by omega)])
      have hbs := hb.size
      by_cases h0 : k = 0
      · have hfresh := HFR.out h0
        have HE := Lib.hid (show Pct.write l = [] by rw [show l = [] from List.length_eq_zero_iff.1 (by omega)]; rfl)
        clear hkl h0
        have HFS := Lib.hid hfresh
        clear hfresh
        go_wp2_with fail
        refine (string_nil w.heap.size w.heap.size (.pointer none) wr HFS.out).mono ?_
        rintro e w7 ⟨rfl, hb7⟩
        go_wp2
        go_ret
        exact ⟨by rw [HE.out]; rfl, hb.trans hb7⟩
      · have HNE := Lib.hid (show acc ≠ [] by rw [HW.out]; exact write_ne l (by intro h; rw [h] at hkl; simp at hkl; exact h0 hkl))
        clear hkl h0
        go_wp2_with fail
        refine (string_some w.heap.size w.heap.size acc wr hbld HNE.out).mono ?_
        rintro e w7 ⟨rfl, hb7⟩
        go_wp2
        go_ret
        exact ⟨by rw [HW.out]; rfl, hb.trans hb7⟩
end Go.Proofs.YtndimjkdmhhohaaDoor
