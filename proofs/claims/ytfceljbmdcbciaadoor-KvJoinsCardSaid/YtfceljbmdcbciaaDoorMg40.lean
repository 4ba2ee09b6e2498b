/- Are changes of a size that is looked at: the document's Few. No condition. A store that has room, and its Commits: what KvJoins asks of them. Condition: the table of sums reads as its text lays it. -/
import Derived.Test.YtfceljbmdcbciaaDoorMg39
namespace Go.Proofs.YtfceljbmdcbciaaDoor
set_option maxRecDepth 8000
open Go.RowKit

namespace Kv
def fewC (c : C) : Bool := decide (c.k.length ≤ 80) && !(decide (60 < c.v.length) && decide (c.v.length ≤ 300))
def few (l : List C) : Bool := l.all fewC && decide (l.length ≤ 12)
theorem fewC_of {c : C} (h : fewC c = true) (hr : right c = true) : c.v.length ≤ 60 := by
  obtain ⟨_, _, h3, _⟩ := right_of hr
  unfold fewC at h
  simp at h
  omega
theorem few_bad {l : List C} {k : Nat} (hk : k < l.length) (h : fewC l[k] = false) : few l = false := by
  unfold few
  have : l.all fewC = false := by
    rw [List.all_eq_false]
    exact ⟨l[k], List.getElem_mem hk, by rw [h]; decide⟩
  rw [this]
  rfl
end Kv
theorem ret_boolK {a b : Bool} (h : b = a) : Ending.returned (.bool a) = .returned (.bool b) := by rw [h]
set_option maxHeartbeats 1600000 in
theorem kvFew_any (w : World) (A : Option Addr) (n c : Nat) (l : List Kv.C) (hn : l.length = n) (h : ChIn w w.heap.size A l) (hM : n ≤ 9223372036854775807) :
    Calls Tryd.prog 34 #[.slice A n c] w fun e w' => e = .returned (.bool (Kv.few l)) ∧ w = w' := by
  have HN := Lib.hid hn
  have HC := Lib.hid h
  clear hn h
  go_enter Tryd.func34, Tryd.ntmps34
  go_wp2_with fail
  go_loopw [3] (fun iv wr => ∃ k : Nat, k ≤ n ∧ iv = .int .i64 k ∧ wr = w ∧ (l.take k).all Kv.fewC = true) (fun iv _ => n - (intOf iv).toNat)
  case atStart => exact ⟨0, Nat.zero_le _, rfl, rfl, rfl⟩
  case round =>
    obtain ⟨k, hk, rfl, rfl, hall⟩ := hrel
    have HA := Lib.hid hall
    clear hall
    by_cases hlt : k < n
    · have hkl : k < l.length := by have := HN.out; omega
      obtain ⟨gb, go, rfl, hgl, hcc⟩ := HC.out (by omega)
      obtain ⟨k1, k2, k3⟩ := hcc k hkl
      have hkI : (k : Int) < (n : Int) := by omega
      have hk0 : (0 : Int) ≤ (k : Int) := by omega
      have HBAD := Lib.hid (fun h : Kv.fewC l[k] = false => Kv.few_bad hkl h)
      have HST := Lib.hid (fun h : Kv.fewC l[k] = true => show (l.take (k + 1)).all Kv.fewC = true by
        rw [List.take_succ_eq_append_getElem hkl, List.all_append, HA.out]
        simp [h])
      have HFC := Lib.hid (show Kv.fewC l[k] = (decide (((S l[k].k).size : Int) ≤ 80) && !(decide ((60 : Int) < ((S l[k].v).size : Int)) && decide (((S l[k].v).size : Int) ≤ 300))) by
        unfold Kv.fewC
        have e1 : decide (((S l[k].k).size : Int) ≤ 80) = decide (l[k].k.length ≤ 80) := by rw [S_size]; congr 1; exact propext ⟨fun h => by omega, fun h => by omega⟩
        have e2 : decide ((60 : Int) < ((S l[k].v).size : Int)) = decide (60 < l[k].v.length) := by rw [S_size]; congr 1; exact propext ⟨fun h => by omega, fun h => by omega⟩
        have e3 : decide (((S l[k].v).size : Int) ≤ 300) = decide (l[k].v.length ≤ 300) := by rw [S_size]; congr 1; exact propext ⟨fun h => by omega, fun h => by omega⟩
        rw [e1, e2, e3])
      generalize l[k] = x at k1 k2 k3 HBAD HST HFC
      clear hcc hgl
      by_cases h1 : (80 : Int) < ((S x.k).size : Int)
      · have hq : Kv.fewC x = false := by rw [HFC.out, decide_eq_false (by omega)]; rfl
        go_wp2_with fail
        go_ret
        exact ⟨ret_boolK (HBAD.out hq), rfl⟩
      · by_cases h2 : (60 : Int) < ((S x.v).size : Int)
        · by_cases h3 : ((S x.v).size : Int) ≤ 300
          · have hq : Kv.fewC x = false := by rw [HFC.out, decide_eq_true h2, decide_eq_true h3]; simp
            go_wp2_with fail
            go_ret
            exact ⟨ret_boolK (HBAD.out hq), rfl⟩
          · have hq : Kv.fewC x = true := by rw [HFC.out, decide_eq_true (show ((S x.k).size : Int) ≤ 80 by omega), decide_eq_false h3]; simp
            go_wp2_with fail
            go_roundw
            case rel => exact ⟨k + 1, by omega, by go_num, trivial, HST.out hq⟩
            case measure => simp [intOf]; omega
        · have hq : Kv.fewC x = true := by rw [HFC.out, decide_eq_true (show ((S x.k).size : Int) ≤ 80 by omega), decide_eq_false h2]; simp
          go_wp2_with fail
          go_roundw
          case rel => exact ⟨k + 1, by omega, by go_num, trivial, HST.out hq⟩
          case measure => simp [intOf]; omega
    · have hkn : k = n := by omega
      subst hkn
      have hfin : Kv.few l = decide ((k : Int) ≤ 12) := by
        have h1 := HA.out
        rw [List.take_of_length_le (by rw [HN.out]; exact Nat.le_refl _)] at h1
        unfold Kv.few
        rw [h1, HN.out, Bool.true_and]
        congr 1
        exact propext ⟨fun h => by omega, fun h => by omega⟩
      have HFIN := Lib.hid hfin
      clear hfin
      go_wp2_with fail
      go_ret
      exact ⟨ret_boolK HFIN.out, rfl⟩
end Go.Proofs.YtfceljbmdcbciaaDoor
namespace Go.Proofs.YtfceljbmdcbciaaDoor
set_option maxRecDepth 8000
open Go.RowKit

namespace Kv
theorem one_few {c : C} (h : right c = true) (hf : fewC c = true) : (one c).length ≤ 130 := by
  obtain ⟨h1, h2, _, _⟩ := right_of h
  have h3 := fewC_of hf h
  have ht : (tail c).length ≤ 62 := by
    unfold tail
    split
    · simp
    · simp; omega
  unfold one
  rw [List.length_cons, List.length_append]
  omega
theorem enc_few : ∀ (l : List C), l.all right = true → l.all fewC = true → (enc l).length ≤ 130 * l.length
  | [], _, _ => Nat.zero_le _
  | c :: r, h, hf => by
    rw [List.all_cons, Bool.and_eq_true] at h hf
    have h1 := one_few h.1 hf.1
    have h2 := enc_few r h.2 hf.2
    rw [enc_cons, List.length_append, List.length_cons]
    omega
theorem encode_few {l : List C} (h : l.all right = true) (hl : (enc l).length ≤ 4000) : encode l = .ok (enc l) := by
  unfold encode
  rw [if_pos h, if_neg (by omega)]
theorem encode_not {l : List C} (h : l.all right = false) : encode l = .error 1 := by
  unfold encode
  rw [if_neg (by rw [h]; decide)]
theorem chs_append (D : DataW Unit) (a b : List C) : chs D (a ++ b) = chs (chs D a) b := by
  unfold chs
  rw [List.foldl_append]
theorem enc_pos {l : List C} (h : l.all right = true) (hl : 0 < l.length) : 0 < (enc l).length := by
  cases l with
  | nil => exact absurd hl (Nat.lt_irrefl 0)
  | cons c r =>
    rw [List.all_cons, Bool.and_eq_true] at h
    have h1 := one_len h.1
    rw [enc_cons, List.length_append]
    omega
end Kv
/-- A store on a disk of 400 blocks whose log has at most r bytes, g generations. -/
def SR (G : Nat → Prop) (w : World) (Q n : Nat) (D : DataW Unit) (r g : Nat) : Prop :=
  ∃ (P L : Nat) (d : Dk.D) (l : Wl.L), SW G w P L Q d l n D ∧ Wl.Inv 0 400 d.kept l ∧ d.st = [] ∧ d.n = 400 ∧ Wl.Fresh d ∧ l.area = 0 ∧ l.gen ≤ g ∧ l.fr.length ≤ r
theorem SR.out {G H : Nat → Prop} {w w' : World} {Q n r g : Nat} {D : DataW Unit} (h : SR G w Q n D r g) (ho : OutP H w w') (hn : ∀ x, G x → x < w.heap.size → ¬ H x) : SR G w' Q n D r g := by
  obtain ⟨P, L, d, l, h1, h2⟩ := h
  exact ⟨P, L, d, l, h1.out ho hn, h2⟩
theorem SR.keep {G : Nat → Prop} {w w' : World} {Q n r g : Nat} {D : DataW Unit} (h : SR G w Q n D r g) (hb : Below w.heap.size w w') : SR G w' Q n D r g :=
  h.out (H := fun _ => False) (OutP.of hb) (fun _ _ _ h => h)
theorem SW.mono {G G' : Nat → Prop} {w : World} {P L Q : Nat} {d : Dk.D} {l : Wl.L} {n : Nat} {D : DataW Unit} (h : SW G w P L Q d l n D) (hs : ∀ x, G x → G' x) : SW G' w P L Q d l n D := by
  obtain ⟨F, b, h1, h2, h3, h4, h5, h6, h7, h8⟩ := h
  exact ⟨F, b, h1, h2, h3, h4, h5, fun x hx => ⟨hs x (h6 x hx).1, (h6 x hx).2⟩, hs _ h7, hs _ h8⟩
theorem NewPost.sr {w0 w : World} {P Q : Nat} (h : NewPost w0 P (Dk.new 400) ⟨0, 0, []⟩ Q w) : SR (fun x => w0.heap.size ≤ x ∧ x < w.heap.size) w Q 0 (.map []) 0 0 ∧ Below w0.heap.size w0 w := by
  obtain ⟨L, h1, h2⟩ := h.sw
  exact ⟨⟨P, L, Dk.new 400, ⟨0, 0, []⟩, h1, Wl.inv_new 0 (by decide) (by decide), rfl, rfl, ⟨by decide, rfl⟩, rfl, Nat.le_refl _, Nat.le_refl _⟩, h2⟩
theorem kvCommit_sr {G : Nat → Prop} {w : World} {Q n m c r g : Nat} {D : DataW Unit} {A : Option Addr} {cs : List Kv.C} (hH : Hs w) (h : SR G w Q n D r g) (hnG : ¬ G 0) (hm : cs.length = m) (hc : ChIn w w.heap.size A cs) (hm2 : m ≤ 12) (hall : cs.all Kv.right = true) (hlen : (Kv.enc cs).length ≤ 1600) (hr : r ≤ 2000) (hg : g ≤ 10) (hn : n ≤ 1000) :
    Calls Tryd.prog 27 #[.pointer (some ⟨Q, 0, none⟩), .slice A m c] w fun e w' => e = .returned (.int .i64 0) ∧ SR (Or G w.heap.size w'.heap.size) w' Q (n + m) (Kv.chs D cs) (r + 1610) (g + 1) ∧ OutP G w w' := by
  rcases Nat.eq_zero_or_pos m with h0 | h0
  · subst h0
    have hn0 : cs = [] := List.eq_nil_of_length_eq_zero hm
    subst hn0
    refine (kvCommit_none w Q c A).mono ?_
    rintro e w' ⟨he, hb⟩
    obtain ⟨P, L, d, l, h1, h2, h3, h4, h5, h6, h7, h8⟩ := h.keep hb
    exact ⟨he, ⟨P, L, d, l, h1.mono (fun _ h => .inl h), h2, h3, h4, h5, h6, by omega, by omega⟩, OutP.of hb⟩
  · obtain ⟨P, L, d, l, h1, hinv, hst, hdn, hf, harea, hgen, hfr⟩ := h
    have hpos := Kv.enc_pos hall (by omega : 0 < cs.length)
    have hab : Wl.areaBytes 400 = 6368 := by decide
    obtain ⟨d', happ, h2, h3, h4, h5, _⟩ := hinv.append_ok (by decide) hdn hst hf (b := Kv.enc cs) (by unfold Fr.ok; simp; omega) (by rw [List.length_append, Fr.frame_len, hab]; omega) (by omega)
    refine (kvCommit_sw hH h1 hnG hst (by omega) (by omega) (by omega) (by omega) hm hc h0 (by omega) (by omega) (Kv.encode_few hall (by omega)) happ).mono ?_
    rintro e w' ⟨he, h6, h7⟩
    exact ⟨he, ⟨P, L, d', _, h6, h2, h3, h4, h5, harea, by dsimp only; omega, by dsimp only; rw [List.length_append, Fr.frame_len]; omega⟩, h7⟩
end Go.Proofs.YtfceljbmdcbciaaDoor
