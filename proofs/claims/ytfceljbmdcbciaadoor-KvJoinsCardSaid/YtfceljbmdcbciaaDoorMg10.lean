/- Plain functions of the log of records (heads, what is found, the calls of the disk that an Append or a Replace makes) and what a head that is torn can be; no program stands in it. No condition. The log that lies on a disk, whatever a crash leaves of a call: the old records, or the new ones. No condition. -/
import Derived.Test.YtfceljbmdcbciaaDoorMg09
import Derived.Test.YtfceljbmdcbciaaDoorMg03
namespace Go.Proofs.YtfceljbmdcbciaaDoor
set_option maxRecDepth 8000
namespace Wl

abbrev Bytes := List UInt8
def areaBlocks (n : Nat) : Nat := (n - 2) / 2
def areaBytes (n : Nat) : Nat := areaBlocks n * 32
def start (n a : Nat) : Nat := 2 + a * areaBlocks n
def word (g a u : Nat) : Nat := g * 16384 + a * 8192 + u
def head (g a u : Nat) : Bytes := Fr.be4 (Cr.sum (Fr.be4 (word g a u))) ++ Fr.be4 (word g a u)
/-- What the first four bytes tell. -/
def num (b : Bytes) : Nat := match b with
  | p :: q :: r :: s :: _ => p.toNat * 16777216 + q.toNat * 65536 + r.toNat * 256 + s.toNat
  | _ => 0
structure Hd where
  gen : Nat
  area : Nat
  used : Nat
def right (b : Bytes) : Prop := num b = Cr.sum ((b.drop 4).take 4)
instance (b : Bytes) : Decidable (right b) := by unfold right; exact inferInstance
def hdOf (b : Bytes) : Hd := ⟨num (b.drop 4) / 16384, num (b.drop 4) / 8192 % 2, num (b.drop 4) % 8192⟩
def readH (n i : Nat) (b : Bytes) : Option Hd :=
  if right b ∧ (hdOf b).gen % 2 = i ∧ (hdOf b).used ≤ areaBytes n then some (hdOf b) else none
def newest (n : Nat) (kept : Bytes) : Hd :=
  match readH n 0 (Dk.blk kept 0), readH n 1 (Dk.blk kept 1) with
  | some h, some g => if h.gen ≤ g.gen then g else h
  | some h, none => h
  | none, some g => g
  | none, none => ⟨0, 0, 0⟩
structure L where
  gen : Nat
  area : Nat
  fr : Bytes
def bytesAt (n : Nat) (kept : Bytes) (a u : Nat) : Bytes := (kept.drop (32 * start n a)).take u
/-- The log that lies on a disk on which nothing is staged. -/
def openK (n : Nat) (kept : Bytes) : Except Nat L :=
  if n < 4 then .error 1 else
  let h := newest n kept
  let f := bytesAt n kept h.area h.used
  if (Fr.scan f).2 = h.used then .ok ⟨h.gen, h.area, f⟩ else .error 20
inductive C where
  | wr (i : Nat) (b : Bytes)
  | sync
def callE (d : Dk.D) : C → Int
  | .wr i b => d.writeE i b
  | .sync => d.syncE
def call (d : Dk.D) : C → Dk.D
  | .wr i b => d.write i b
  | .sync => d.sync
/-- Calls, one behind the other, up to the first one that fails. -/
def runC : Dk.D → List C → Dk.D × Bool
  | d, [] => (d, true)
  | d, c :: r => if callE d c = 0 then runC (call d c) r else (call d c, false)
def chunk (b : Bytes) (k : Nat) : Bytes := (b.drop (32 * k)).take 32
def count (b : Bytes) : Nat := (b.length + 31) / 32
def writesC (at0 : Nat) (b : Bytes) : List C := (List.range (count b)).map fun k => .wr (at0 + k) (chunk b k)
def keepC (n area frm : Nat) (fr : Bytes) (g : Nat) : List C :=
  writesC (start n area + frm) (fr.drop (32 * frm)) ++ [.sync, .wr (g % 2) (head g area fr.length), .sync]
def keep (d : Dk.D) (l : L) (area frm : Nat) (fr : Bytes) : Int × Dk.D × L :=
  if areaBytes d.n < fr.length ∨ l.gen = 262143 then (5, d, l) else
  let r := runC d (keepC d.n area frm fr (l.gen + 1))
  if r.2 then (0, r.1, ⟨l.gen + 1, area, fr⟩) else (21, r.1.drop, l)
def append (d : Dk.D) (l : L) (b : Bytes) : Int × Dk.D × L :=
  match Fr.put b with
  | .error e => ((e : Int), d, l)
  | .ok f => keep d l l.area (l.fr.length / 32) (l.fr ++ f)
def replace (d : Dk.D) (l : L) (all : List Bytes) : Int × Dk.D × L :=
  match Fr.all all with
  | .error e => ((e : Int), d, l)
  | .ok f => keep d l (1 - l.area) 0 f

/-! Heads. -/
theorem num_be4 {s : Nat} (h : s < 4294967296) (r : Bytes) : num (Fr.be4 s ++ r) = s := by
  unfold Fr.be4 num
  simp only [List.cons_append, List.nil_append, UInt8.toNat_ofNat']
  omega
theorem num_lt (b : Bytes) : num b < 4294967296 := by
  unfold num
  split
  · rename_i p q r s _
    have := UInt8.toNat_lt p
    have := UInt8.toNat_lt q
    have := UInt8.toNat_lt r
    have := UInt8.toNat_lt s
    omega
  · omega
theorem be4_len (s : Nat) : (Fr.be4 s).length = 4 := rfl
theorem head_len (g a u : Nat) : (head g a u).length = 8 := rfl
theorem word_lt {g a u : Nat} (hg : g ≤ 262143) (ha : a ≤ 1) (hu : u < 8192) : word g a u < 4294967296 := by unfold word; omega
theorem head_drop (g a u : Nat) : (head g a u).drop 4 = Fr.be4 (word g a u) := rfl
theorem head_right (g a u : Nat) : right (head g a u) := by
  unfold right
  rw [head_drop, List.take_of_length_le (by rw [be4_len]; omega)]
  exact num_be4 (Cr.sum_lt _) _
theorem hdOf_head {g a u : Nat} (hg : g ≤ 262143) (ha : a ≤ 1) (hu : u < 8192) : hdOf (head g a u) = ⟨g, a, u⟩ := by
  have h : num ((head g a u).drop 4) = word g a u := by
    rw [head_drop, ← List.append_nil (Fr.be4 _)]
    exact num_be4 (word_lt hg ha hu) []
  unfold hdOf
  rw [h]
  unfold word
  congr 1 <;> omega
theorem num_inj : ∀ {a b : Bytes}, a.length = 4 → b.length = 4 → num a = num b → a = b
  | [a1, a2, a3, a4], [b1, b2, b3, b4], _, _, h => by
    simp only [num] at h
    have h1 := UInt8.toNat_lt a1
    have h2 := UInt8.toNat_lt a2
    have h3 := UInt8.toNat_lt a3
    have h4 := UInt8.toNat_lt a4
    have g1 := UInt8.toNat_lt b1
    have g2 := UInt8.toNat_lt b2
    have g3 := UInt8.toNat_lt b3
    have g4 := UInt8.toNat_lt b4
    rw [UInt8.toNat_inj.1 (show a1.toNat = b1.toNat by omega), UInt8.toNat_inj.1 (show a2.toNat = b2.toNat by omega), UInt8.toNat_inj.1 (show a3.toNat = b3.toNat by omega), UInt8.toNat_inj.1 (show a4.toNat = b4.toNat by omega)]
theorem num_take (b : Bytes) (h : 4 ≤ b.length) : num b = num (b.take 4) := by
  match b, h with
  | p :: q :: r :: s :: t, _ => rfl
/-- Of four bytes the sum tells which. -/
theorem sum_inj {a b : Bytes} (ha : a.length = 4) (hb : b.length = 4) (h : Cr.sum a = Cr.sum b) : a = b := by
  have hw : ∀ x : Bytes, x.length = 4 → Cr.wd x < 4294967296 := by
    intro x hx
    match x, hx with
    | [x1, x2, x3, x4], _ =>
      have h1 := UInt8.toNat_lt x1
      have h2 := UInt8.toNat_lt x2
      have h3 := UInt8.toNat_lt x3
      have h4 := UInt8.toNat_lt x4
      have : Cr.wd [x1, x2, x3, x4] = Cr.wd (Cr.four (x1.toNat + 256 * x2.toNat + 65536 * x3.toNat + 16777216 * x4.toNat)) := by
        unfold Cr.four
        have e1 : UInt8.ofNat (x1.toNat + 256 * x2.toNat + 65536 * x3.toNat + 16777216 * x4.toNat) = x1 := by apply UInt8.toNat_inj.1; rw [UInt8.toNat_ofNat']; omega
        have e2 : UInt8.ofNat ((x1.toNat + 256 * x2.toNat + 65536 * x3.toNat + 16777216 * x4.toNat) / 256) = x2 := by apply UInt8.toNat_inj.1; rw [UInt8.toNat_ofNat']; omega
        have e3 : UInt8.ofNat ((x1.toNat + 256 * x2.toNat + 65536 * x3.toNat + 16777216 * x4.toNat) / 65536) = x3 := by apply UInt8.toNat_inj.1; rw [UInt8.toNat_ofNat']; omega
        have e4 : UInt8.ofNat ((x1.toNat + 256 * x2.toNat + 65536 * x3.toNat + 16777216 * x4.toNat) / 16777216) = x4 := by apply UInt8.toNat_inj.1; rw [UInt8.toNat_ofNat']; omega
        rw [e1, e2, e3, e4]
      rw [this, Cr.wd_four (by omega)]
      omega
  have hwi : Cr.wd a = Cr.wd b → a = b := by
    intro e
    match a, b, ha, hb with
    | [a1, a2, a3, a4], [b1, b2, b3, b4], _, _ =>
      have h1 := UInt8.toNat_lt a1
      have h2 := UInt8.toNat_lt a2
      have h3 := UInt8.toNat_lt a3
      have h4 := UInt8.toNat_lt a4
      have g1 := UInt8.toNat_lt b1
      have g2 := UInt8.toNat_lt b2
      have g3 := UInt8.toNat_lt b3
      have g4 := UInt8.toNat_lt b4
      have e5 : ∀ x1 x2 x3 x4 : UInt8, Cr.wd [x1, x2, x3, x4] = x1.toNat + 256 * x2.toNat + 65536 * x3.toNat + 16777216 * x4.toNat := by
        intro x1 x2 x3 x4
        have h1 := UInt8.toNat_lt x1
        have h2 := UInt8.toNat_lt x2
        have h3 := UInt8.toNat_lt x3
        have h4 := UInt8.toNat_lt x4
        have : [x1, x2, x3, x4] = Cr.four (x1.toNat + 256 * x2.toNat + 65536 * x3.toNat + 16777216 * x4.toNat) := by
          unfold Cr.four
          have e1 : UInt8.ofNat (x1.toNat + 256 * x2.toNat + 65536 * x3.toNat + 16777216 * x4.toNat) = x1 := by apply UInt8.toNat_inj.1; rw [UInt8.toNat_ofNat']; omega
          have e2 : UInt8.ofNat ((x1.toNat + 256 * x2.toNat + 65536 * x3.toNat + 16777216 * x4.toNat) / 256) = x2 := by apply UInt8.toNat_inj.1; rw [UInt8.toNat_ofNat']; omega
          have e3 : UInt8.ofNat ((x1.toNat + 256 * x2.toNat + 65536 * x3.toNat + 16777216 * x4.toNat) / 65536) = x3 := by apply UInt8.toNat_inj.1; rw [UInt8.toNat_ofNat']; omega
          have e4 : UInt8.ofNat ((x1.toNat + 256 * x2.toNat + 65536 * x3.toNat + 16777216 * x4.toNat) / 16777216) = x4 := by apply UInt8.toNat_inj.1; rw [UInt8.toNat_ofNat']; omega
          rw [e1, e2, e3, e4]
        rw [this, Cr.wd_four (by omega)]
      rw [e5, e5] at e
      rw [UInt8.toNat_inj.1 (show a1.toNat = b1.toNat by omega), UInt8.toNat_inj.1 (show a2.toNat = b2.toNat by omega), UInt8.toNat_inj.1 (show a3.toNat = b3.toNat by omega), UInt8.toNat_inj.1 (show a4.toNat = b4.toNat by omega)]
  apply hwi
  have h1 : Cr.go (Cr.mx ^^^ 0) a = Cr.go (Cr.mx ^^^ 0) b := by
    have : Cr.mx ^^^ Cr.sum a = Cr.mx ^^^ Cr.sum b := by rw [h]
    unfold Cr.sum Cr.more at this
    rwa [Cr.mx_mx, Cr.mx_mx] at this
  rw [Cr.go_wd, Cr.go_wd, ha, hb] at h1
  have h2 : Cr.sts 32 (Cr.wd a ^^^ Cr.wd b) = 0 := by
    have h3 := Cr.sts_xor 32 (Cr.mx ^^^ 0 ^^^ Cr.wd a) (Cr.mx ^^^ 0 ^^^ Cr.wd b)
    rw [h1, Nat.xor_self] at h3
    rw [← h3]
    congr 1
    rw [Nat.xor_comm (Cr.mx ^^^ 0) (Cr.wd a), Nat.xor_assoc, ← Nat.xor_assoc (Cr.mx ^^^ 0), Nat.xor_self, Nat.zero_xor]
  have h3 := Cr.sts_eq_zero 32 _ (Nat.xor_lt_two_pow (n := 32) (hw a ha) (hw b hb)) h2
  have h4 : Cr.wd a ^^^ Cr.wd b ^^^ Cr.wd b = Cr.wd b := by rw [h3, Nat.zero_xor]
  rwa [Nat.xor_assoc, Nat.xor_self, Nat.xor_zero] at h4

def zero8 : Bytes := List.replicate 8 0
/-- What a torn head's rest may be of: nothing, or a right head. -/
def Old (O : Bytes) : Prop := O.length = 8 ∧ (O = zero8 ∨ right O)
theorem zero_not : ¬ right zero8 := by decide +kernel
theorem zeros_last {k : Nat} (hk : k < 4) {N : Bytes} (hN : N.length = 8) : num ((N.take k ++ zero8.drop k).take 4) % 256 = 0 := by
  match N, hN with
  | [a, b, c, d, e, f, g, i], _ =>
    have z : (0 : UInt8).toNat = 0 := rfl
    rcases k with _ | _ | _ | _ | k
    · show ((0 : UInt8).toNat * 16777216 + (0 : UInt8).toNat * 65536 + (0 : UInt8).toNat * 256 + (0 : UInt8).toNat) % 256 = 0
      rw [z]
    · show (a.toNat * 16777216 + (0 : UInt8).toNat * 65536 + (0 : UInt8).toNat * 256 + (0 : UInt8).toNat) % 256 = 0
      rw [z]
      omega
    · show (a.toNat * 16777216 + b.toNat * 65536 + (0 : UInt8).toNat * 256 + (0 : UInt8).toNat) % 256 = 0
      rw [z]
      omega
    · show (a.toNat * 16777216 + b.toNat * 65536 + c.toNat * 256 + (0 : UInt8).toNat) % 256 = 0
      rw [z]
      omega
    · omega
theorem torn {N O : Bytes} (k : Nat) (hN : N.length = 8) (hn : right N) (hO : Old O) (h : right (N.take k ++ O.drop k)) : N.take k ++ O.drop k = N ∨ N.take k ++ O.drop k = O := by
  obtain ⟨hl, ho⟩ := hO
  by_cases hk8 : 8 ≤ k
  · left
    rw [List.take_of_length_le (by omega), List.drop_eq_nil_of_le (by omega), List.append_nil]
  have hlen : (N.take k ++ O.drop k).length = 8 := by simp; omega
  by_cases hk : 4 ≤ k
  · left
    obtain ⟨X, hX⟩ : ∃ X, X = N.take k ++ O.drop k := ⟨_, rfl⟩
    rw [← hX] at h hlen ⊢
    have h4 : X.take 4 = N.take 4 := by
      rw [hX, List.take_append_of_le_length (by simp; omega), List.take_take, Nat.min_eq_left hk]
    have hnum : num X = num N := by rw [num_take X (by omega), num_take N (by omega), h4]
    unfold right at h hn
    rw [hnum, hn] at h
    have h5 := sum_inj (by simp; omega) (by simp; omega) h
    rw [List.take_of_length_le (by simp; omega), List.take_of_length_le (by simp; omega)] at h5
    rw [← List.take_append_drop 4 X, ← List.take_append_drop 4 N, h4, h5]
  · have h4 : (N.take k ++ O.drop k).drop 4 = O.drop 4 := by
      rw [List.drop_append, List.drop_drop, List.drop_eq_nil_of_le (by simp; omega), List.nil_append]
      congr 1
      simp
      omega
    rcases ho with rfl | ho
    · exfalso
      unfold right at h
      rw [h4] at h
      have h3 : num (N.take k ++ zero8.drop k) % 256 = 0 := by
        rw [num_take _ (by rw [hlen]; omega)]
        exact zeros_last (by omega) hN
      have h5 : Cr.sum ((zero8.drop 4).take 4) % 256 ≠ 0 := by decide +kernel
      exact h5 ((congrArg (· % 256) h.symm).trans h3)
    · right
      obtain ⟨X, hX⟩ : ∃ X, X = N.take k ++ O.drop k := ⟨_, rfl⟩
      rw [← hX] at h hlen h4 ⊢
      unfold right at h ho
      rw [h4, ← ho, num_take X (by omega), num_take O (by omega)] at h
      have h5 := num_inj (by simp; omega) (by simp; omega) h
      rw [← List.take_append_drop 4 X, ← List.take_append_drop 4 O, h4, h5]
end Wl
end Go.Proofs.YtfceljbmdcbciaaDoor
namespace Go.Proofs.YtfceljbmdcbciaaDoor
set_option maxRecDepth 8000
namespace Wl
open Dk (D blk lay layAll layCut cutAt pad)

theorem bytesAt_get (n : Nat) (kept : Bytes) (a u q : Nat) : (bytesAt n kept a u)[q]? = if q < u then kept[32 * start n a + q]? else none := by
  unfold bytesAt
  rw [List.getElem?_take]
  split
  · rw [List.getElem?_drop]
  · rfl
/-- The bytes l lie in an area, from its beginning on. -/
def Lies (n : Nat) (kept : Bytes) (a : Nat) (l : Bytes) : Prop := ∀ q, q < l.length → kept[32 * start n a + q]? = l[q]?
theorem Lies.bytes {n : Nat} {kept : Bytes} {a : Nat} {l : Bytes} (h : Lies n kept a l) : bytesAt n kept a l.length = l := by
  apply List.ext_getElem?
  intro q
  rw [bytesAt_get]
  split
  · exact h q (by assumption)
  · rw [List.getElem?_eq_none (by omega)]
/-- Both heads, and the log's frames, are as they were. -/
structure Same (n : Nat) (l : L) (k0 k : Bytes) : Prop where
  len : k.length = 32 * n
  heads : ∀ q, q < 64 → k[q]? = k0[q]?
  data : Lies n k l.area l.fr
/-- A block whose laying, as far as it comes, leaves both heads and the log's frames. -/
def Fits (n : Nat) (l : L) (s : Nat × Bytes) : Prop := 2 ≤ s.1 ∧ s.1 < n ∧ s.2.length = 32 ∧ ∀ q, q < 32 → ∀ p, p < l.fr.length → 32 * s.1 + q = 32 * start n l.area + p → s.2[q]? = l.fr[p]?
theorem Same.lay {n : Nat} {l : L} {k0 k : Bytes} {s : Nat × Bytes} (h : Same n l k0 k) (hs : Fits n l s) (c : Nat) (hc : c ≤ 32) : Same n l k0 (lay k s c) := by
  obtain ⟨h1, h2, h3, h4⟩ := hs
  refine ⟨Dk.lay_ok c h.len h2 h3, fun q hq => ?_, fun p hp => ?_⟩
  · rw [Dk.lay_get h.len h2 h3 hc, if_neg (by omega)]
    exact h.heads q hq
  · rw [Dk.lay_get h.len h2 h3 hc]
    split
    · rename_i hin
      exact h4 (32 * start n l.area + p - 32 * s.1) (by omega) p hp (by omega)
    · exact h.data p hp
theorem Same.layAll {n : Nat} {l : L} {k0 : Bytes} : ∀ (st : List (Nat × Bytes)) {k : Bytes}, Same n l k0 k → (∀ s ∈ st, Fits n l s) → Same n l k0 (layAll k st)
  | [], _, h, _ => h
  | s :: r, _, h, hs => Same.layAll r (h.lay (hs s (by simp)) 32 (Nat.le_refl _)) (fun x hx => hs x (by simp [hx]))
theorem cut_le (cuts : Bytes) (j : Nat) : cutAt cuts j ≤ 32 := by
  unfold Dk.cutAt
  split
  · omega
  · omega
theorem Same.layCut {n : Nat} {l : L} {k0 : Bytes} (cuts : Bytes) : ∀ (st : List (Nat × Bytes)) (j : Nat) {k : Bytes}, Same n l k0 k → (∀ s ∈ st, Fits n l s) → Same n l k0 (layCut cuts j k st)
  | [], _, _, h, _ => h
  | s :: r, j, _, h, hs => Same.layCut cuts r (j + 1) (h.lay (hs s (by simp)) _ (cut_le cuts j)) (fun x hx => hs x (by simp [hx]))

/-- Where a disk stands while an Append or a Replace goes on, ahead of the head. -/
structure MidA (n : Nat) (l : L) (k0 : Bytes) (d : D) : Prop where
  dn : d.n = n
  same : Same n l k0 d.kept
  st : ∀ s ∈ d.st, Fits n l s
theorem MidA.asked {n : Nat} {l : L} {k0 : Bytes} {d : D} (h : MidA n l k0 d) : MidA n l k0 d.asked := ⟨by rw [Dk.asked_n]; exact h.dn, by rw [Dk.asked_kept]; exact h.same, by rw [Dk.asked_st]; exact h.st⟩
theorem MidA.write {n : Nat} {l : L} {k0 : Bytes} {d : D} (h : MidA n l k0 d) (i : Nat) (b : Bytes) (hi : Fits n l (i, pad b)) : MidA n l k0 (d.write i b) ∧ (d.writeE i b = 0 → (d.write i b).st = d.st ++ [(i, pad b)] ∧ (d.write i b).kept = d.kept) := by
  have h1 := hi.2.1
  unfold D.write D.writeE
  have g1 : ¬ ((i : Int) < 0 ∨ (d.n : Int) ≤ (i : Int)) := by have := h.dn; dsimp only at h1; omega
  rw [if_neg g1, if_neg g1]
  split
  · exact ⟨h, fun e => by simp at e⟩
  · split
    · exact ⟨h.asked, fun e => by simp at e⟩
    · refine ⟨⟨h.asked.dn, h.asked.same, fun s hs => ?_⟩, fun _ => ⟨by rw [Int.toNat_natCast], Dk.asked_kept d⟩⟩
      rcases List.mem_append.1 hs with hs | hs
      · exact h.st s hs
      · rw [List.mem_singleton] at hs
        subst hs
        rw [Int.toNat_natCast]
        exact hi
theorem MidA.sync {n : Nat} {l : L} {k0 : Bytes} {d : D} (h : MidA n l k0 d) : MidA n l k0 d.sync := by
  unfold D.sync
  split
  · exact h.asked
  · exact ⟨by rw [Dk.asked_n]; exact h.dn, Same.layAll _ h.same h.st, fun s hs => by cases hs⟩
theorem MidA.drop {n : Nat} {l : L} {k0 : Bytes} {d : D} (h : MidA n l k0 d) : MidA n l k0 d.drop := by
  unfold D.drop
  split
  · exact h
  · exact ⟨h.dn, h.same, fun s hs => by cases hs⟩
/-- The first calls of writes that fit. -/
theorem run_writes {n : Nat} {l : L} {k0 : Bytes} : ∀ (cs : List (Nat × Bytes)) (d : D), MidA n l k0 d → (∀ s ∈ cs, Fits n l (s.1, pad s.2)) →
    MidA n l k0 (runC d (cs.map fun s => C.wr s.1 s.2)).1 ∧ ((runC d (cs.map fun s => C.wr s.1 s.2)).2 = true → (runC d (cs.map fun s => C.wr s.1 s.2)).1.st = d.st ++ cs.map (fun s => (s.1, pad s.2)) ∧ (runC d (cs.map fun s => C.wr s.1 s.2)).1.kept = d.kept)
  | [], d, h, _ => ⟨h, fun _ => ⟨by simp [runC], rfl⟩⟩
  | s :: r, d, h, hs => by
    have h1 := h.write s.1 s.2 (hs s (by simp))
    by_cases he : d.writeE s.1 s.2 = 0
    · obtain ⟨e1, e2⟩ := h1.2 he
      have h2 := run_writes r _ h1.1 (fun x hx => hs x (by simp [hx]))
      have e : runC d ((s :: r).map fun s => C.wr s.1 s.2) = runC (d.write s.1 s.2) (r.map fun s => C.wr s.1 s.2) := by
        show (if d.writeE s.1 s.2 = 0 then _ else _) = _
        rw [if_pos he]
        rfl
      rw [e]
      refine ⟨h2.1, fun ht => ?_⟩
      obtain ⟨g1, g2⟩ := h2.2 ht
      exact ⟨by rw [g1, e1]; simp, by rw [g2, e2]⟩
    · have e : runC d ((s :: r).map fun s => C.wr s.1 s.2) = (d.write s.1 s.2, false) := by
        show (if d.writeE s.1 s.2 = 0 then _ else _) = _
        rw [if_neg he]
        rfl
      rw [e]
      exact ⟨h1.1, fun ht => by cases ht⟩
theorem runC_app : ∀ (a b : List C) (d : D), runC d (a ++ b) = if (runC d a).2 then runC (runC d a).1 b else ((runC d a).1, false)
  | [], b, d => by simp [runC]
  | c :: r, b, d => by
    show (if callE d c = 0 then runC (call d c) (r ++ b) else _) = _
    by_cases he : callE d c = 0
    · rw [if_pos he, runC_app r b]
      have : runC d (c :: r) = runC (call d c) r := by show (if _ then _ else _) = _; rw [if_pos he]
      rw [this]
    · rw [if_neg he]
      have : runC d (c :: r) = (call d c, false) := by show (if _ then _ else _) = _; rw [if_neg he]
      rw [this]
      simp
end Wl
end Go.Proofs.YtfceljbmdcbciaaDoor
