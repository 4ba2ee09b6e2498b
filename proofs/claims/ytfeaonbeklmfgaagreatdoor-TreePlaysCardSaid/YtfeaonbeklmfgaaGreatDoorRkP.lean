/- Records, plain: which can be, how they are as bytes, and which one bytes tell; what is encoded is decoded, and unlike ones are written unlike. No condition but that they can be, where that is said. -/
import Derived.Test.YtfeaonbeklmfgaaGreatDoorTkE
namespace Go.Proofs.YtfeaonbeklmfgaaGreatDoor
set_option maxRecDepth 8000
namespace Rk
open Tk (Bytes)

structure R where
  kind : Int
  name : Bytes
  parent : Bytes
  user : Bytes
  service : Bytes
  url : Bytes
  made : Int
  used : Int
  uses : Int
  fresh : Bool
deriving DecidableEq

/-- What comes of what. -/
def comes (k o : Int) : Bool := decide (k = 1 ∧ o = 0 ∨ k = 6 ∧ o = 0 ∨ k = 2 ∧ o = 1 ∨ k = 3 ∧ o = 4 ∨ k = 4 ∧ o = 2 ∨ k = 4 ∧ o = 3 ∨ k = 5 ∧ o = 4)
def okName (r : R) : Bool := (Tk.tell r.name).2.2 && decide (((Tk.tell r.name).1 : Int) = r.kind)
def okParent (r : R) : Bool := ((Tk.tell r.parent).2.2 || r.parent.isEmpty) && comes r.kind (Tk.tell r.parent).1
def okRest (r : R) : Bool := decide (r.user.length ≤ 32 ∧ r.service.length ≤ 100 ∧ r.url.length ≤ 100 ∧ 0 ≤ r.made ∧ r.made ≤ r.used ∧ r.used ≤ 1099511627776 ∧ 0 ≤ r.uses ∧ r.uses ≤ 255)
def right (r : R) : Bool := okName r && okParent r && okRest r

/-- The last k bytes of a number. -/
def be : Nat → Nat → Bytes
  | 0, _ => []
  | k + 1, n => UInt8.ofNat (n / 256 ^ k) :: be k n
def num (l : Bytes) : Nat := l.foldl (fun a c => 256 * a + c.toNat) 0
def txt (s : Bytes) : Bytes := UInt8.ofNat s.length :: s
def head (r : R) : Bytes := [UInt8.ofNat r.kind.toNat, UInt8.ofNat r.uses.toNat, if r.fresh then 1 else 0]
def enc (r : R) : Bytes := head r ++ be 8 r.made.toNat ++ be 8 r.used.toNat ++ txt r.parent ++ txt r.user ++ txt r.service ++ txt r.url

theorem flat_take {T : List Bytes} {k : Nat} (hk : k < T.length) : (T.take (k + 1)).flatMap txt = ((T.take k).flatMap txt ++ [UInt8.ofNat T[k].length]) ++ T[k] := by
  rw [List.take_succ_eq_append_getElem hk, List.flatMap_append]
  simp [txt]
theorem flat_len (T : List Bytes) (k : Nat) : ((T.take k).flatMap txt).length ≤ (T.flatMap txt).length := by
  have h : T.flatMap txt = (T.take k).flatMap txt ++ (T.drop k).flatMap txt := by rw [← List.flatMap_append, List.take_append_drop]
  rw [h, List.length_append]
  omega
theorem be_len : ∀ k n : Nat, (be k n).length = k
  | 0, _ => rfl
  | k + 1, n => by rw [be, List.length_cons, be_len k]
theorem be_at : ∀ (k n i : Nat), i < k → (be k n)[i]? = some (UInt8.ofNat (n / 256 ^ (k - 1 - i)))
  | 0, _, _, h => absurd h (by omega)
  | k + 1, n, 0, _ => by simp [be]
  | k + 1, n, i + 1, h => by
    rw [be, List.getElem?_cons_succ, be_at k n i (by omega), show k + 1 - 1 - (i + 1) = k - 1 - i by omega]
theorem be_take (n i : Nat) (h : i < 8) : (be 8 n).take (i + 1) = (be 8 n).take i ++ [UInt8.ofNat (n / 256 ^ (7 - i))] := by
  have h1 : i < (be 8 n).length := by rw [be_len]; exact h
  rw [List.take_succ_eq_append_getElem h1]
  have h2 := be_at 8 n i h
  rw [List.getElem?_eq_getElem h1] at h2
  rw [Option.some.inj h2]
theorem num_snoc (l : Bytes) (c : UInt8) : num (l ++ [c]) = 256 * num l + c.toNat := by simp [num]
theorem num_from (l : Bytes) : ∀ a : Nat, l.foldl (fun a c => 256 * a + c.toNat) a = a * 256 ^ l.length + num l := by
  induction l with
  | nil => intro a; simp [num]
  | cons c l ih =>
    intro a
    unfold num
    rw [List.foldl_cons, List.foldl_cons, ih, ih (256 * 0 + c.toNat), List.length_cons, Nat.pow_succ]
    have e : (256 * a + c.toNat) * 256 ^ l.length = a * (256 ^ l.length * 256) + c.toNat * 256 ^ l.length := by
      rw [Nat.add_mul, Nat.mul_comm 256 a, Nat.mul_assoc, Nat.mul_comm 256]
    rw [e]
    simp
    omega
theorem num_cons (c : UInt8) (l : Bytes) : num (c :: l) = c.toNat * 256 ^ l.length + num l := by
  show List.foldl _ (256 * 0 + c.toNat) l = _
  rw [num_from]
  simp
theorem num_lt : ∀ l : Bytes, num l < 256 ^ l.length
  | [] => by simp [num]
  | c :: l => by
    have h := num_lt l
    have hc := c.toNat_lt
    rw [num_cons, List.length_cons, Nat.pow_succ]
    have h2 : c.toNat * 256 ^ l.length ≤ 255 * 256 ^ l.length := Nat.mul_le_mul_right _ (by omega)
    omega
theorem num_be : ∀ k n : Nat, num (be k n) = n % 256 ^ k
  | 0, n => by simp [be, num, Nat.mod_one]
  | k + 1, n => by
    rw [be, num_cons, be_len, num_be k, Nat.pow_succ, Nat.mod_mul, UInt8.toNat_ofNat', Nat.mul_comm (256 ^ k), Nat.add_comm]
theorem be_num : ∀ l : Bytes, be l.length (num l) = l := by
  intro l
  have key : ∀ (l : Bytes) (a : Nat), be l.length (a * 256 ^ l.length + num l) = l := by
    intro l
    induction l with
    | nil => intro a; rfl
    | cons c l ih =>
      intro a
      have hl := num_lt l
      have hp : 0 < 256 ^ l.length := Nat.pow_pos (by decide)
      have e : a * 256 ^ (l.length + 1) + num (c :: l) = (a * 256 + c.toNat) * 256 ^ l.length + num l := by
        rw [num_cons, Nat.pow_succ, Nat.add_mul]
        have : a * (256 ^ l.length * 256) = a * 256 * 256 ^ l.length := by rw [Nat.mul_assoc, Nat.mul_comm 256]
        omega
      rw [List.length_cons, e, be, ih]
      congr 1
      rw [Nat.mul_comm, Nat.mul_add_div hp, Nat.div_eq_of_lt hl, Nat.add_zero]
      apply UInt8.toNat_inj.1
      rw [UInt8.toNat_ofNat']
      have := c.toNat_lt
      omega
  have := key l 0
  rwa [Nat.zero_mul, Nat.zero_add] at this

/-- A number of up to eight bytes, as it is read. -/
def numI (l : Bytes) : Int := IntKind.i64.wrap (num l : Int)
structure Src where
  got : Bytes
  rest : Bytes
def tk (n : Nat) (s : Bytes) : Bytes × Bytes := (s.take n, s.drop n)
def rdN (n : Nat) (s : Bytes) : Int × Bytes := (numI (s.take n), s.drop n)
def rdT (s : Bytes) : Bytes × Bytes := ((s.drop 1).take (num (s.take 1)), (s.drop 1).drop (num (s.take 1)))
/-- What is read of any bytes. -/
def read (name s : Bytes) : R :=
  let t1 := (rdT (s.drop 19)).2
  let t2 := (rdT t1).2
  let t3 := (rdT t2).2
  { kind := numI (s.take 1), name := name, parent := (rdT (s.drop 19)).1, user := (rdT t1).1, service := (rdT t2).1, url := (rdT t3).1, made := numI ((s.drop 3).take 8), used := numI ((s.drop 11).take 8), uses := numI ((s.drop 1).take 1), fresh := decide (numI ((s.drop 2).take 1) = 1) }
def dec (name s : Bytes) : Option R := if right (read name s) = true ∧ enc (read name s) = s then some (read name s) else none

theorem numI_small {l : Bytes} (h : l.length ≤ 7) : numI l = num l := by
  have h1 := num_lt l
  have h2 : 256 ^ l.length ≤ 256 ^ 7 := Nat.pow_le_pow_right (by decide) h
  unfold numI
  rw [IntKind.wrap_i64]
  omega
theorem numI_be {n : Nat} (h : n < 9223372036854775808) : numI (be 8 n) = n := by
  unfold numI
  rw [num_be, IntKind.wrap_i64]
  omega
theorem num_one (c : UInt8) : num [c] = c.toNat := by simp [num]
theorem rdT_txt (s x : Bytes) (h : s.length < 256) : rdT (txt s ++ x) = (s, x) := by
  unfold rdT txt
  have e : num (([UInt8.ofNat s.length] : Bytes)) = s.length := by
    rw [num_one, UInt8.toNat_ofNat']
    omega
  show (((s ++ x)).take (num [UInt8.ofNat s.length]), ((s ++ x)).drop (num [UInt8.ofNat s.length])) = _
  rw [e, List.take_left, List.drop_left]

structure Ok (r : R) : Prop where
  nm : (Tk.tell r.name).2.2 = true
  kd : ((Tk.tell r.name).1 : Int) = r.kind
  pa : (Tk.tell r.parent).2.2 = true ∨ r.parent = []
  cm : comes r.kind (Tk.tell r.parent).1 = true
  us : r.user.length ≤ 32
  sv : r.service.length ≤ 100
  ur : r.url.length ≤ 100
  m0 : 0 ≤ r.made
  mu : r.made ≤ r.used
  ut : r.used ≤ 1099511627776
  s0 : 0 ≤ r.uses
  s1 : r.uses ≤ 255
theorem right_iff (r : R) : right r = true ↔ Ok r := by
  unfold right okName okParent okRest
  constructor
  · intro h
    simp only [Bool.and_eq_true, decide_eq_true_eq, Bool.or_eq_true, List.isEmpty_iff] at h
    obtain ⟨⟨⟨a, b⟩, c, d⟩, e1, e2, e3, e4, e5, e6, e7, e8⟩ := h
    exact ⟨a, b, c, d, e1, e2, e3, e4, e5, e6, e7, e8⟩
  · rintro ⟨a, b, c, d, e1, e2, e3, e4, e5, e6, e7, e8⟩
    simp only [Bool.and_eq_true, decide_eq_true_eq, Bool.or_eq_true, List.isEmpty_iff]
    exact ⟨⟨⟨a, b⟩, c, d⟩, e1, e2, e3, e4, e5, e6, e7, e8⟩
theorem comes_kind {k o : Int} (h : comes k o = true) : 1 ≤ k ∧ k ≤ 6 ∧ 0 ≤ o ∧ o ≤ 4 := by
  unfold comes at h
  have := of_decide_eq_true h
  omega
theorem tell_length {s : Bytes} (h : (Tk.tell s).2.2 = true) : s.length ≤ 23 := by
  rcases Tk.tell_cases s with ⟨k, n, hn, _⟩ | ⟨_, e⟩
  · rw [hn.eq]
    unfold Tk.name
    rw [List.length_append, List.length_cons, Tk.num_len]
    have := (Tk.pre_facts k (by have := hn.hi; omega)).2 hn.lo
    omega
  · rw [e] at h
    cases h
theorem Ok.parent {r : R} (h : Ok r) : r.parent.length ≤ 23 := by
  rcases h.pa with h | h
  · exact tell_length h
  · rw [h]; simp
theorem enc_len (r : R) : (enc r).length = 23 + r.parent.length + r.user.length + r.service.length + r.url.length := by
  unfold enc head txt
  simp only [List.length_append, List.length_cons, List.length_nil, be_len]
  omega
theorem Ok.enc_le {r : R} (h : Ok r) : (enc r).length ≤ 278 := by
  have := h.parent
  have := h.us
  have := h.sv
  have := h.ur
  rw [enc_len]
  omega
/-- What is encoded is read. -/
theorem read_enc {r : R} (h : Ok r) : read r.name (enc r) = r := by
  have hp := h.parent
  have hu := h.us
  have hs := h.sv
  have hl := h.ur
  have hk := comes_kind h.cm
  have hm := h.m0
  have hmu := h.mu
  have hut := h.ut
  have hs0 := h.s0
  have hs1 := h.s1
  clear h
  obtain ⟨kind, name, parent, user, service, url, made, used, uses, fresh⟩ := r
  dsimp only at *
  obtain ⟨K, rfl⟩ := Int.eq_ofNat_of_zero_le (show 0 ≤ kind by omega)
  obtain ⟨M, rfl⟩ := Int.eq_ofNat_of_zero_le hm
  obtain ⟨U, rfl⟩ := Int.eq_ofNat_of_zero_le (show 0 ≤ used by omega)
  obtain ⟨X, rfl⟩ := Int.eq_ofNat_of_zero_le hs0
  have e : enc ⟨(K : Int), name, parent, user, service, url, (M : Int), (U : Int), (X : Int), fresh⟩ = [UInt8.ofNat K, UInt8.ofNat X, if fresh then 1 else 0] ++ (be 8 M ++ (be 8 U ++ (txt parent ++ (txt user ++ (txt service ++ (txt url ++ [])))))) := by
    unfold enc head
    simp
  rw [e]
  obtain ⟨T, hT⟩ : ∃ T, T = txt parent ++ (txt user ++ (txt service ++ (txt url ++ []))) := ⟨_, rfl⟩
  rw [← hT]
  have d3 : ([UInt8.ofNat K, UInt8.ofNat X, if fresh then 1 else 0] ++ (be 8 M ++ (be 8 U ++ T))).drop 3 = be 8 M ++ (be 8 U ++ T) := rfl
  have d11 : ([UInt8.ofNat K, UInt8.ofNat X, if fresh then 1 else 0] ++ (be 8 M ++ (be 8 U ++ T))).drop 11 = be 8 U ++ T := by
    rw [show 11 = 3 + 8 from rfl, ← List.drop_drop, d3]
    exact List.drop_left' (be_len 8 M)
  have d19 : ([UInt8.ofNat K, UInt8.ofNat X, if fresh then 1 else 0] ++ (be 8 M ++ (be 8 U ++ T))).drop 19 = T := by
    rw [show 19 = 11 + 8 from rfl, ← List.drop_drop, d11]
    exact List.drop_left' (be_len 8 U)
  have t0 : ([UInt8.ofNat K, UInt8.ofNat X, if fresh then 1 else 0] ++ (be 8 M ++ (be 8 U ++ T))).take 1 = [UInt8.ofNat K] := rfl
  have t1 : (([UInt8.ofNat K, UInt8.ofNat X, if fresh then 1 else 0] ++ (be 8 M ++ (be 8 U ++ T))).drop 1).take 1 = [UInt8.ofNat X] := rfl
  have t2 : (([UInt8.ofNat K, UInt8.ofNat X, if fresh then 1 else 0] ++ (be 8 M ++ (be 8 U ++ T))).drop 2).take 1 = [if fresh then 1 else 0] := rfl
  have n0 : numI [UInt8.ofNat K] = (K : Int) := by
    rw [numI_small (by simp), num_one, UInt8.toNat_ofNat']
    omega
  have n1 : numI [UInt8.ofNat X] = (X : Int) := by
    rw [numI_small (by simp), num_one, UInt8.toNat_ofNat']
    omega
  have n2 : decide (numI [if fresh then 1 else 0] = 1) = fresh := by
    rw [numI_small (by simp), num_one]
    cases fresh <;> rfl
  unfold read
  rw [d3, d11, d19, t0, t1, t2, n0, n1, n2, List.take_left' (be_len 8 M), List.take_left' (be_len 8 U), numI_be (by omega), numI_be (by omega), hT]
  rw [rdT_txt _ _ (by omega)]
  dsimp only
  rw [rdT_txt _ _ (by omega)]
  dsimp only
  rw [rdT_txt _ _ (by omega)]
  dsimp only
  rw [rdT_txt _ _ (by omega)]
theorem read_name (n s : Bytes) : (read n s).name = n := rfl
theorem dec_enc {r : R} (h : Ok r) : dec r.name (enc r) = some r := by
  unfold dec
  rw [read_enc h, if_pos ⟨(right_iff r).2 h, rfl⟩]
theorem dec_some {n s : Bytes} {r : R} (h : dec n s = some r) : Ok r ∧ enc r = s ∧ r.name = n := by
  unfold dec at h
  split at h
  · rename_i h1
    have := Option.some.inj h
    subst this
    exact ⟨(right_iff _).1 h1.1, h1.2, rfl⟩
  · cases h
theorem dec_none {n s : Bytes} (h : dec n s = none) (r : R) (hr : Ok r) (hn : r.name = n) : enc r ≠ s := by
  intro e
  subst e
  subst hn
  rw [dec_enc hr] at h
  cases h
theorem enc_inj {a b : R} (ha : Ok a) (hb : Ok b) (hn : a.name = b.name) (h : enc a = enc b) : a = b := by
  rw [← read_enc ha, ← read_enc hb, h, hn]
end Rk
end Go.Proofs.YtfeaonbeklmfgaaGreatDoor
