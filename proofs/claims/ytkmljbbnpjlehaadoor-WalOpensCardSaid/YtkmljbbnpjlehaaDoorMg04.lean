/- Frames of records, plain: a record's frame, the frame at the front of a text, the records that are told; what was put is told. No program stands in it. No condition. The document's Put of package frame, for any bytes. -/
import Derived.Test.YtkmljbbnpjlehaaDoorMg00
import Derived.Test.YtkmljbbnpjlehaaDoorMg03
import Derived.Deep.DeepCutAuto
namespace Go.Proofs.YtkmljbbnpjlehaaDoor
set_option maxRecDepth 8000
namespace Fr
abbrev Bytes := List UInt8

def be2 (n : Nat) : Bytes := [UInt8.ofNat (n / 256), UInt8.ofNat n]
def be4 (s : Nat) : Bytes := [UInt8.ofNat (s / 16777216), UInt8.ofNat (s / 65536), UInt8.ofNat (s / 256), UInt8.ofNat s]
def frame (b : Bytes) : Bytes := be2 b.length ++ (be4 (Cr.sum (be2 b.length ++ b)) ++ b)
def ok (b : Bytes) : Bool := decide (0 < b.length) && decide (b.length ≤ 4000)
def frames (l : List Bytes) : Bytes := l.flatMap frame
/-- What Put tells: 1 for no byte, 2 for too many. -/
def put (b : Bytes) : Except Nat Bytes := if b.length = 0 then .error 1 else if 4000 < b.length then .error 2 else .ok (frame b)
def all : List Bytes → Except Nat Bytes
  | [] => .ok []
  | b :: l => match put b with
    | .error e => .error e
    | .ok f => match all l with
      | .error e => .error e
      | .ok r => .ok (f ++ r)
/-- Are the records of a size that is looked at? -/
def small (b : Bytes) : Bool := !(decide (100 < b.length) && decide (b.length ≤ 4000))
def few (l : List Bytes) : Bool := l.all small && decide (l.length ≤ 20)
/-- How long the record at the front says that it is. -/
def len (b : Bytes) : Nat := match b with
  | x :: y :: _ => 256 * x.toNat + y.toNat
  | _ => 0
/-- The record whose frame stands at the front, and what is behind. -/
def one (b : Bytes) : Option (Bytes × Bytes) :=
  if 6 + len b ≤ b.length then
    (if ok ((b.drop 6).take (len b)) && (b.take (6 + len b) == frame ((b.drop 6).take (len b))) then some ((b.drop 6).take (len b), b.drop (6 + len b)) else none)
  else none
def scanF : Nat → Bytes → List Bytes × Nat
  | 0, _ => ([], 0)
  | f + 1, b => match one b with
    | none => ([], 0)
    | some (x, r) => (x :: (scanF f r).1, (6 + x.length) + (scanF f r).2)
def scan (b : Bytes) : List Bytes × Nat := scanF b.length b

theorem frame_len (b : Bytes) : (frame b).length = 6 + b.length := by unfold frame be2 be4; simp; omega
theorem ok_iff (b : Bytes) : ok b = true ↔ 0 < b.length ∧ b.length ≤ 4000 := by unfold ok; simp
theorem be2_val {n : Nat} (h : n < 65536) (r : Bytes) : len (be2 n ++ r) = n := by
  show 256 * (UInt8.ofNat (n / 256)).toNat + (UInt8.ofNat n).toNat = n
  rw [UInt8.toNat_ofNat', UInt8.toNat_ofNat']
  omega
theorem len_frame {b : Bytes} (h : ok b = true) (r : Bytes) : len (frame b ++ r) = b.length := by
  unfold frame
  rw [List.append_assoc]
  exact be2_val (by have := (ok_iff b).1 h; omega) _
theorem frame_drop (b r : Bytes) : (frame b ++ r).drop 6 = b ++ r := by
  unfold frame be2 be4
  rfl
theorem one_frame {b : Bytes} (h : ok b = true) (r : Bytes) : one (frame b ++ r) = some (b, r) := by
  have e1 := len_frame h r
  have e2 := frame_drop b r
  have e3 := frame_len b
  have e4 : (frame b ++ r).take (6 + b.length) = frame b := by rw [← e3, List.take_left]
  have e5 : (frame b ++ r).drop (6 + b.length) = r := by rw [← e3, List.drop_left]
  unfold one
  rw [e1, e2, List.take_left, e4, e5, h, if_pos (by rw [List.length_append]; omega), if_pos (by simp)]
theorem one_is {b x r : Bytes} (h : one b = some (x, r)) : ok x = true ∧ b = frame x ++ r := by
  unfold one at h
  by_cases h1 : 6 + len b ≤ b.length
  · rw [if_pos h1] at h
    by_cases h2 : (ok ((b.drop 6).take (len b)) && (b.take (6 + len b) == frame ((b.drop 6).take (len b)))) = true
    · rw [if_pos h2] at h
      simp only [Option.some.injEq, Prod.mk.injEq] at h
      obtain ⟨e1, e2⟩ := h
      rw [e1, Bool.and_eq_true] at h2
      refine ⟨h2.1, ?_⟩
      rw [← beq_iff_eq.1 h2.2, ← e2, List.take_append_drop]
    · rw [if_neg h2] at h; cases h
  · rw [if_neg h1] at h; cases h
theorem one_less {b x r : Bytes} (h : one b = some (x, r)) : r.length + (6 + x.length) = b.length := by
  have e := congrArg List.length (one_is h).2
  rw [List.length_append, frame_len] at e
  omega
theorem scanF_more : ∀ (f g : Nat) (b : Bytes), b.length ≤ f → b.length ≤ g → scanF f b = scanF g b
  | 0, g, b, h1, _ => by
    have hb : b = [] := List.length_eq_zero_iff.1 (by omega)
    subst hb
    cases g with
    | zero => rfl
    | succ g => rfl
  | f + 1, 0, b, _, h2 => by
    have hb : b = [] := List.length_eq_zero_iff.1 (by omega)
    subst hb
    rfl
  | f + 1, g + 1, b, h1, h2 => by
    unfold scanF
    cases ho : one b with
    | none => rfl
    | some q =>
      obtain ⟨x, r⟩ := q
      have := one_less ho
      dsimp only
      rw [scanF_more f g r (by omega) (by omega)]
theorem scan_none {b : Bytes} (h : one b = none) : scan b = ([], 0) := by
  unfold scan
  cases b with
  | nil => rfl
  | cons c b => rw [List.length_cons]; unfold scanF; rw [h]
theorem scan_some {b x r : Bytes} (h : one b = some (x, r)) : scan b = (x :: (scan r).1, (6 + x.length) + (scan r).2) := by
  have hl := one_less h
  unfold scan
  obtain ⟨f, hf⟩ : ∃ f, b.length = f + 1 := ⟨b.length - 1, by omega⟩
  rw [hf]
  conv => lhs; unfold scanF
  rw [h]
  dsimp only
  rw [scanF_more f r.length r (by omega) (Nat.le_refl _)]
theorem frames_cons (b : Bytes) (l : List Bytes) : frames (b :: l) = frame b ++ frames l := by unfold frames; rw [List.flatMap_cons]
theorem frames_app (a b : List Bytes) : frames (a ++ b) = frames a ++ frames b := by unfold frames; rw [List.flatMap_append]
/-- What was put is told, and one goes on behind it as from the beginning. -/
theorem scan_frames : ∀ (l : List Bytes) (r : Bytes), l.all ok = true → scan (frames l ++ r) = (l ++ (scan r).1, (frames l).length + (scan r).2)
  | [], r, _ => by simp [frames]
  | b :: l, r, h => by
    rw [List.all_cons, Bool.and_eq_true] at h
    rw [frames_cons, List.append_assoc, scan_some (one_frame h.1 _), scan_frames l r h.2, List.length_append, frame_len]
    simp
    omega
/-- What is told is put as it stands there, and nothing is told behind it. -/
theorem scan_is : ∀ (k : Nat) (b : Bytes), b.length ≤ k → (scan b).1.all ok = true ∧ b = frames (scan b).1 ++ b.drop (scan b).2 ∧ (scan b).2 = (frames (scan b).1).length ∧ one (b.drop (scan b).2) = none
  | 0, b, h => by
    have hb : b = [] := List.length_eq_zero_iff.1 (by omega)
    subst hb
    exact ⟨rfl, rfl, rfl, rfl⟩
  | k + 1, b, h => by
    cases ho : one b with
    | none =>
      rw [scan_none ho]
      exact ⟨rfl, by simp [frames], rfl, ho⟩
    | some q =>
      obtain ⟨x, r⟩ := q
      have hl := one_less ho
      obtain ⟨h1, h2⟩ := one_is ho
      obtain ⟨i1, i2, i3, i4⟩ := scan_is k r (by omega)
      rw [scan_some ho]
      dsimp only
      have hd : b.drop (6 + x.length + (scan r).2) = r.drop (scan r).2 := by
        conv => lhs; rw [h2]
        rw [← frame_len, ← List.drop_drop, List.drop_left]
      rw [hd, frames_cons]
      refine ⟨by rw [List.all_cons, h1, i1]; rfl, ?_, by rw [List.length_append, frame_len, i3], i4⟩
      rw [List.append_assoc, ← i2]
      exact h2
theorem scan_le (b : Bytes) : (scan b).2 ≤ b.length := by
  obtain ⟨_, h2, h3, _⟩ := scan_is b.length b (Nat.le_refl _)
  have e := congrArg List.length h2
  rw [List.length_append] at e
  omega
/-- Behind what is told nothing is told. -/
theorem scan_rest (b : Bytes) : scan (b.drop (scan b).2) = ([], 0) := scan_none (scan_is b.length b (Nat.le_refl _)).2.2.2
theorem all_of_ok : ∀ {l : List Bytes}, l.all ok = true → all l = .ok (frames l)
  | [], _ => rfl
  | b :: l, h => by
    rw [List.all_cons, Bool.and_eq_true] at h
    have hb := (ok_iff b).1 h.1
    unfold all put
    rw [if_neg (by omega), if_neg (by omega), all_of_ok h.2, frames_cons]
theorem ok_of_all : ∀ {l : List Bytes} {r : Bytes}, all l = .ok r → l.all ok = true ∧ r = frames l
  | [], r, h => by
    unfold all at h
    injection h with h
    exact ⟨rfl, h.symm⟩
  | b :: l, r, h => by
    unfold all put at h
    by_cases h1 : b.length = 0
    · rw [if_pos h1] at h; cases h
    · rw [if_neg h1] at h
      by_cases h2 : 4000 < b.length
      · rw [if_pos h2] at h; cases h
      · rw [if_neg h2] at h
        dsimp only at h
        cases ha : all l with
        | error e => rw [ha] at h; cases h
        | ok r' =>
          rw [ha] at h
          injection h with h
          obtain ⟨i1, i2⟩ := ok_of_all ha
          refine ⟨by rw [List.all_cons, i1, (ok_iff b).2 ⟨by omega, by omega⟩]; rfl, ?_⟩
          rw [← h, i2, frames_cons]
/-- An error of All is one of the two. -/
theorem all_err : ∀ {l : List Bytes} {e : Nat}, all l = .error e → e = 1 ∨ e = 2
  | [], e, h => by unfold all at h; cases h
  | b :: l, e, h => by
    unfold all put at h
    by_cases h1 : b.length = 0
    · rw [if_pos h1] at h
      injection h with h
      exact .inl h.symm
    · rw [if_neg h1] at h
      by_cases h2 : 4000 < b.length
      · rw [if_pos h2] at h
        injection h with h
        exact .inr h.symm
      · rw [if_neg h2] at h
        dsimp only at h
        cases ha : all l with
        | error e' =>
          rw [ha] at h
          injection h with h
          subst h
          exact all_err ha
        | ok r => rw [ha] at h; cases h

theorem all_error : ∀ {l : List Bytes} {k : Nat} (hk : k < l.length) {e : Nat}, (l.take k).all ok = true → put l[k] = .error e → all l = .error e
  | b :: l, 0, _, e, _, h => by
    have h' : put b = .error e := h
    unfold all
    rw [h']
  | b :: l, k + 1, hk, e, ho, h => by
    rw [List.take_succ_cons, List.all_cons, Bool.and_eq_true] at ho
    have hb := (ok_iff b).1 ho.1
    have ih := all_error (l := l) (k := k) (by simpa using hk) ho.2 (by simpa using h)
    unfold all
    rw [show put b = .ok (frame b) by unfold put; rw [if_neg (by omega), if_neg (by omega)], ih]
theorem put_ok {b : Bytes} (h : ok b = true) : put b = .ok (frame b) := by
  have hb := (ok_iff b).1 h
  unfold put
  rw [if_neg (by omega), if_neg (by omega)]
theorem put_bad {b : Bytes} (h : ok b = false) : ∃ e, (e = 1 ∨ e = 2) ∧ put b = .error e := by
  unfold put
  by_cases h0 : b.length = 0
  · exact ⟨1, .inl rfl, by rw [if_pos h0]⟩
  · by_cases h4 : 4000 < b.length
    · exact ⟨2, .inr rfl, by rw [if_neg h0, if_pos h4]⟩
    · have : ok b = true := (ok_iff b).2 ⟨by omega, by omega⟩
      rw [this] at h; cases h
/-- How long all frames would be. -/
def total : List Bytes → Nat
  | [] => 0
  | b :: l => (6 + b.length) + total l
theorem frames_total : ∀ l : List Bytes, (frames l).length = total l
  | [] => rfl
  | b :: l => by rw [frames_cons, List.length_append, frame_len, frames_total l]; rfl
theorem total_app : ∀ a b : List Bytes, total (a ++ b) = total a + total b
  | [], b => by simp [total]
  | x :: a, b => by
    show (6 + x.length) + total (a ++ b) = ((6 + x.length) + total a) + total b
    rw [total_app a b]
    omega
theorem total_take (l : List Bytes) (k : Nat) : total (l.take k) ≤ total l := by
  have h := total_app (l.take k) (l.drop k)
  rw [List.take_append_drop] at h
  omega

theorem total_mem : ∀ {l : List Bytes} {b : Bytes}, b ∈ l → b.length ≤ total l
  | x :: l, b, hb => by
    show b.length ≤ (6 + x.length) + total l
    rcases List.mem_cons.1 hb with rfl | hb
    · omega
    · have := total_mem hb; omega

/-- How long the frames are that are made ahead of the first error. -/
def okTotal : List Bytes → Nat
  | [] => 0
  | b :: l => if ok b = true then (6 + b.length) + okTotal l else 0
theorem okTotal_take : ∀ (l : List Bytes) (k : Nat), (l.take k).all ok = true → total (l.take k) ≤ okTotal l
  | [], k, _ => by rw [List.take_nil]; exact Nat.le_refl _
  | b :: l, 0, _ => by rw [List.take_zero]; exact Nat.zero_le _
  | b :: l, k + 1, h => by
    rw [List.take_succ_cons, List.all_cons, Bool.and_eq_true] at h
    have ih := okTotal_take l k h.2
    rw [List.take_succ_cons]
    show (6 + b.length) + total (l.take k) ≤ okTotal (b :: l)
    unfold okTotal
    rw [if_pos h.1]
    omega
theorem okTotal_le : ∀ l : List Bytes, okTotal l ≤ total l
  | [] => Nat.le_refl _
  | b :: l => by
    have := okTotal_le l
    unfold okTotal
    show _ ≤ (6 + b.length) + total l
    split <;> omega
theorem okTotal_small : ∀ l : List Bytes, l.all small = true → okTotal l ≤ 106 * l.length
  | [], _ => Nat.le_refl _
  | b :: l, h => by
    rw [List.all_cons, Bool.and_eq_true] at h
    have ih := okTotal_small l h.2
    unfold okTotal
    by_cases hb : ok b = true
    · rw [if_pos hb]
      have hb' := (ok_iff b).1 hb
      have hs := h.1
      unfold small at hs
      have h100 : b.length ≤ 100 := by
        rcases Nat.lt_or_ge 100 b.length with h1 | h1
        · rw [decide_eq_true h1, decide_eq_true hb'.2] at hs; cases hs
        · exact h1
      rw [List.length_cons]
      omega
    · rw [if_neg hb]; omega
theorem okTotal_few {l : List Bytes} (h : few l = true) : okTotal l ≤ 2120 := by
  unfold few at h
  rw [Bool.and_eq_true] at h
  have h1 := okTotal_small l h.1
  have h2 : l.length ≤ 20 := of_decide_eq_true h.2
  omega

theorem total_count : ∀ l : List Bytes, l.length ≤ total l
  | [] => Nat.le_refl _
  | b :: l => by
    have := total_count l
    show l.length + 1 ≤ (6 + b.length) + total l
    omega

theorem all_bad : ∀ {l : List Bytes}, l.all ok = false → ∃ e, (e = 1 ∨ e = 2) ∧ all l = .error e
  | [], h => by cases h
  | b :: l, h => by
    cases hb : ok b with
    | false =>
      obtain ⟨e, he, hp⟩ := put_bad hb
      exact ⟨e, he, by unfold all; rw [hp]⟩
    | true =>
      rw [List.all_cons, hb, Bool.true_and] at h
      obtain ⟨e, he, hp⟩ := all_bad h
      exact ⟨e, he, by unfold all; rw [put_ok hb, hp]⟩
theorem scan_all {l : List Bytes} (h : l.all ok = true) : scan (frames l) = (l, (frames l).length) := by
  have := scan_frames l [] h
  rw [List.append_nil, scan_none (b := []) rfl] at this
  simpa using this

/-! ### Places -/
theorem len_at {b : Bytes} {a : Nat} (h : a + 1 < b.length) : len (b.drop a) = 256 * b[a].toNat + b[a + 1].toNat := by
  rw [List.drop_eq_getElem_cons (by omega : a < b.length), List.drop_eq_getElem_cons (by omega : a + 1 < b.length)]
  rfl
theorem one_end {b : Bytes} {a : Nat} (h : b.length < a + 6) : one (b.drop a) = none := by
  unfold one
  rw [if_neg (by rw [List.length_drop]; omega)]
theorem one_long {b : Bytes} {a n : Nat} (hn : n = len (b.drop a)) (h : b.length < a + 6 + n) : one (b.drop a) = none := by
  unfold one
  rw [if_neg (by rw [List.length_drop]; omega)]
theorem one_at {b : Bytes} {a n : Nat} (hn : n = len (b.drop a)) (h : a + 6 + n ≤ b.length) : one (b.drop a) = match put ((b.drop (a + 6)).take n) with
    | .error _ => none
    | .ok f => if (b.drop a).take (6 + n) = f then some ((b.drop (a + 6)).take n, b.drop (a + 6 + n)) else none := by
  unfold one
  rw [← hn, if_pos (by rw [List.length_drop]; omega), List.drop_drop, List.drop_drop]
  obtain ⟨x, hx⟩ : ∃ x, x = (b.drop (a + 6)).take n := ⟨_, rfl⟩
  rw [← hx, show a + (6 + n) = a + 6 + n by omega]
  cases ho : ok x with
  | false =>
    obtain ⟨e, _, he⟩ := put_bad ho
    rw [he, Bool.false_and]
    rfl
  | true =>
    rw [put_ok ho, Bool.true_and]
    dsimp only
    by_cases hq : (b.drop a).take (6 + n) = frame x
    · rw [if_pos hq, if_pos (by rw [hq]; simp)]
    · rw [if_neg hq, if_neg (by simpa using hq)]
/-- How far the records are told. -/
def ScanTo (b : Bytes) (acc : List Bytes) (a : Nat) : Prop := a ≤ b.length ∧ scan b = (acc ++ (scan (b.drop a)).1, a + (scan (b.drop a)).2)
theorem ScanTo.start (b : Bytes) : ScanTo b [] 0 := ⟨Nat.zero_le _, by simp⟩
theorem ScanTo.stop {b : Bytes} {acc : List Bytes} {a : Nat} (h : ScanTo b acc a) (ho : one (b.drop a) = none) : scan b = (acc, a) := by
  rw [h.2, scan_none ho]
  simp
theorem ScanTo.step {b : Bytes} {acc : List Bytes} {a : Nat} (h : ScanTo b acc a) {x : Bytes} {a' : Nat} (ho : one (b.drop a) = some (x, b.drop a')) (ha : a' = a + 6 + x.length) (hl : a' ≤ b.length) : ScanTo b (acc ++ [x]) a' := by
  refine ⟨hl, ?_⟩
  rw [h.2, scan_some ho]
  simp
  omega

/-! ### Beginnings -/
theorem one_short {x : Bytes} (h : ok x = true) {k : Nat} (hk : k < 6 + x.length) (r : Bytes) : one ((frame x ++ r).take k) = none := by
  cases ho : one ((frame x ++ r).take k) with
  | none => rfl
  | some q =>
    exfalso
    obtain ⟨y, r'⟩ := q
    obtain ⟨h1, h2⟩ := one_is ho
    have hl := congrArg List.length h2
    rw [List.length_append, frame_len, List.length_take] at hl
    have h3 : len ((frame x ++ r).take k) = y.length := by rw [h2]; exact len_frame h1 r'
    have h4 : len ((frame x ++ r).take k) = len (frame x ++ r) := by
      have hy := (ok_iff y).1 h1
      obtain ⟨k', rfl⟩ : ∃ k', k = k' + 2 := ⟨k - 2, by omega⟩
      unfold frame be2
      rfl
    rw [h4, len_frame h r] at h3
    omega
/-- How many of the records are whole in the first k bytes. -/
def whole : List Bytes → Nat → Nat
  | [], _ => 0
  | b :: l, k => if 6 + b.length ≤ k then 1 + whole l (k - (6 + b.length)) else 0
theorem scan_cut : ∀ (l : List Bytes) (k : Nat), l.all ok = true → scan ((frames l).take k) = (l.take (whole l k), (frames (l.take (whole l k))).length)
  | [], k, _ => by
    show scan (([] : Bytes).take k) = _
    rw [List.take_nil]
    rfl
  | b :: l, k, h => by
    rw [List.all_cons, Bool.and_eq_true] at h
    unfold whole
    by_cases hk : 6 + b.length ≤ k
    · rw [if_pos hk, frames_cons, List.take_append, frame_len, List.take_of_length_le (by rw [frame_len]; exact hk), scan_some (one_frame h.1 _), scan_cut l _ h.2, Nat.add_comm 1, List.take_succ_cons, frames_cons, List.length_append, frame_len]
    · rw [if_neg hk, frames_cons, scan_none (one_short h.1 (by omega) _)]
      rfl

/-- j records are whole, of a bytes. -/
def WholeAt (l : List Bytes) (k j a : Nat) : Prop := j ≤ l.length ∧ a = total (l.take j) ∧ a ≤ k ∧ whole l k = j + whole (l.drop j) (k - a)
theorem WholeAt.start (l : List Bytes) (k : Nat) : WholeAt l k 0 0 := ⟨Nat.zero_le _, by rw [List.take_zero]; rfl, Nat.zero_le _, by simp⟩
theorem WholeAt.step {l : List Bytes} {k j a : Nat} (h : WholeAt l k j a) (hj : j < l.length) (hk : a + 6 + l[j].length ≤ k) : WholeAt l k (j + 1) (a + 6 + l[j].length) := by
  obtain ⟨h1, h2, h3, h4⟩ := h
  refine ⟨hj, ?_, hk, ?_⟩
  · rw [List.take_succ_eq_append_getElem hj, total_app, ← h2]
    show a + 6 + l[j].length = a + ((6 + l[j].length) + 0)
    omega
  · rw [h4, List.drop_eq_getElem_cons hj]
    conv => lhs; unfold whole
    rw [if_pos (by omega), show k - a - (6 + l[j].length) = k - (a + 6 + l[j].length) by omega]
    omega
theorem WholeAt.stop {l : List Bytes} {k j a : Nat} (h : WholeAt l k j a) (hn : ¬ ∃ h : j < l.length, a + 6 + l[j].length ≤ k) : whole l k = j ∧ a = total (l.take j) := by
  obtain ⟨h1, h2, h3, h4⟩ := h
  refine ⟨?_, h2⟩
  rw [h4]
  by_cases hj : j < l.length
  · rw [List.drop_eq_getElem_cons hj]
    unfold whole
    rw [if_neg (fun hc => hn ⟨hj, by omega⟩)]
    rfl
  · rw [List.drop_eq_nil_of_le (by omega)]
    rfl

/-! ### What was spoilt -/
theorem be4_inj {a b : Nat} (ha : a < 4294967296) (hb : b < 4294967296) (h : be4 a = be4 b) : a = b := by
  have hv : ∀ s : Nat, s < 4294967296 → 16777216 * ((be4 s)[0]'(by simp [be4])).toNat + 65536 * ((be4 s)[1]'(by simp [be4])).toNat + 256 * ((be4 s)[2]'(by simp [be4])).toNat + ((be4 s)[3]'(by simp [be4])).toNat = s := by
    intro s hs
    show 16777216 * (UInt8.ofNat (s / 16777216)).toNat + 65536 * (UInt8.ofNat (s / 65536)).toNat + 256 * (UInt8.ofNat (s / 256)).toNat + (UInt8.ofNat s).toNat = s
    rw [UInt8.toNat_ofNat', UInt8.toNat_ofNat', UInt8.toNat_ofNat', UInt8.toNat_ofNat']
    omega
  have h1 := hv a ha
  have h2 := hv b hb
  simp only [h] at h1
  omega
/-- A change within 32 bits changes the sum, whatever stands ahead. -/
theorem burst_at {p l c : Bytes} {v at_ : Nat} (hl : c.length = l.length) (ha : at_ ≤ 8 * l.length) (hv : v < 4294967296) (h0 : v ≠ 0) (h : Cr.wd c = Cr.wd l ^^^ v * 2 ^ at_) : Cr.sum (p ++ c) ≠ Cr.sum (p ++ l) := by
  intro he
  unfold Cr.sum Cr.more at he
  have h1 : ∀ a b : Nat, Cr.mx ^^^ a = Cr.mx ^^^ b → a = b := fun a b hab => by rw [← Cr.mx_mx a, hab, Cr.mx_mx]
  have h2 := h1 _ _ he
  rw [Cr.go_app, Cr.go_app, Cr.go_wd c, Cr.go_wd l, hl, h, ← Nat.xor_assoc, Cr.sts_xor _ (_ ^^^ Cr.wd l)] at h2
  have h3 := Cr.xor_eq_left h2
  rw [show 8 * l.length = at_ + (8 * l.length - at_) by omega, Cr.sts_add, Cr.sts_double] at h3
  exact h0 (Cr.sts_eq_zero _ _ hv h3)
/-- A record that stands under another one's sum is not told. -/
theorem one_spoilt {x y : Bytes} (h : ok x = true) (hl : y.length = x.length) (hs : Cr.sum (be2 x.length ++ y) ≠ Cr.sum (be2 x.length ++ x)) (r : Bytes) : one (be2 x.length ++ (be4 (Cr.sum (be2 x.length ++ x)) ++ y) ++ r) = none := by
  cases ho : one (be2 x.length ++ (be4 (Cr.sum (be2 x.length ++ x)) ++ y) ++ r) with
  | none => rfl
  | some q =>
    exfalso
    obtain ⟨z, r'⟩ := q
    obtain ⟨h1, h2⟩ := one_is ho
    have h3 := congrArg len h2
    rw [len_frame h1, List.append_assoc, be2_val (by have := (ok_iff x).1 h; omega)] at h3
    rw [frame, ← h3, List.append_assoc, List.append_assoc, List.append_assoc, List.append_assoc] at h2
    have h4 := List.append_cancel_left h2
    have h5 := List.append_inj h4 (by simp [be4])
    have h6 := List.append_inj h5.2 (by omega)
    rw [h6.1] at hs
    exact hs (be4_inj (Cr.sum_lt _) (Cr.sum_lt _) h5.1.symm)
end Fr
end Go.Proofs.YtkmljbbnpjlehaaDoor
namespace Go.Proofs.YtkmljbbnpjlehaaDoor
set_option maxRecDepth 8000
open Go.RowKit

theorem own_below {w w' : World} {base : Nat} {e : TypeId} {size : Nat} {v : Value} {n : Nat} {xs : List Value} (h : w.ownsRow base e size v n xs) (hb : Below w.heap.size w w') : w'.ownsRow base e size v n xs := by
  refine ⟨h.1, ?_⟩
  rcases h.2 with h1 | ⟨g, cap, cur, hv, hbase, hg, hr⟩
  · exact .inl h1
  · refine .inr ⟨g, cap, cur, hv, hbase, ?_, hr⟩
    rw [hb.block g]
    · exact hg
    · rcases Nat.lt_or_ge g w.heap.size with hlt | hge
      · exact hlt
      · rw [Array.getElem?_eq_none hge] at hg; cases hg
theorem row_made (w : World) (base : Nat) (hb : base ≤ w.heap.size) (l : List UInt8) (hl : l.length ≤ 1048576) (g n : Nat) (hg : g = w.heap.size) (hn : n = l.length) : Row base (w.alloc (.cells (l.map B).toArray 5)) (.slice (some ⟨g, 0, none⟩) n n) l := by
  subst hg hn
  refine ⟨by simp, .inr ⟨w.heap.size, l.length, (l.map B).toArray, rfl, hb, heap_alloc_new w _, Nat.le_refl _, by unfold maxLen; omega, by simp, ?_⟩⟩
  rw [Nat.mul_one, List.take_of_length_le (by simp)]
theorem row_cells {base : Nat} {w : World} {A : Option Addr} {n c : Nat} {l : List UInt8} (h : Row base w (.slice A n c) l) : BCells w w.heap.size A l := fun hn => by
  obtain ⟨A', c', hv, hbc, hlo⟩ := h.form
  injection hv with hv _ _
  subst hv
  obtain ⟨b, off, rfl, hc⟩ := hbc hn
  exact ⟨b, off, rfl, (hlo _ rfl).2.1, hc⟩
theorem row_len {base : Nat} {w : World} {A : Option Addr} {n c : Nat} {l : List UInt8} (h : Row base w (.slice A n c) l) : n = l.length := by
  obtain ⟨A', c', hv, _⟩ := h.form
  injection hv
/-- What Put tells. -/
def PutPost (r : Except Nat (List UInt8)) (w : World) (e : Ending) (w' : World) : Prop :=
  Below w.heap.size w w' ∧ match r with
  | .error k => e = .returned (.tuple #[.slice none 0 0, .int .i64 (k : Int)])
  | .ok f => ∃ A c, e = .returned (.tuple #[.slice A f.length c, .int .i64 0]) ∧ Row w.heap.size w' (.slice A f.length c) f
def scaleOf : Nat → Nat
  | 0 => 16777216
  | 1 => 65536
  | 2 => 256
  | 3 => 1
  | _ => 0
theorem be4_byte (s j : Nat) (hj : j < 4) : (Fr.be4 s)[j]'(by simp [Fr.be4]; omega) = UInt8.ofNat (s / scaleOf j) := by
  match j, hj with
  | 0, _ => rfl
  | 1, _ => rfl
  | 2, _ => rfl
  | 3, _ => show UInt8.ofNat s = UInt8.ofNat (s / 1); rw [Nat.div_one]
theorem scale_next (j : Nat) (hj : j < 4) : scaleOf j / 256 = scaleOf (j + 1) ∧ 0 < scaleOf j ∧ scaleOf j ≤ 16777216 := by
  match j, hj with
  | 0, _ => exact ⟨rfl, by decide, by decide⟩
  | 1, _ => exact ⟨rfl, by decide, by decide⟩
  | 2, _ => exact ⟨rfl, by decide, by decide⟩
  | 3, _ => exact ⟨rfl, by decide, by decide⟩
def PutRel (w : World) (n s : Nat) (ov sv : Value) (wr : World) : Prop :=
  ∃ (j : Nat) (A : Option Addr) (c : Nat), j ≤ 4 ∧ sv = U (scaleOf j) ∧ ov = .slice A (2 + j) c ∧ Row w.heap.size wr (.slice A (2 + j) c) (Fr.be2 n ++ (Fr.be4 s).take j) ∧ Below w.heap.size w wr

set_option maxHeartbeats 1600000 in
theorem refPut_any (A : Option Addr) (c n : Nat) (l : List UInt8) (w : World) (hn : l.length = n) (hb : BCells w w.heap.size A l) (hl : n ≤ 9223372036854775807) :
    Calls Tryd.prog 67 #[.slice A n c] w (PutPost (Fr.put l) w) := by
  by_cases h0 : n = 0
  · have hP : Fr.put l = .error 1 := by unfold Fr.put; rw [if_pos (by omega)]
    rw [hP]
    subst h0
    go_enter Tryd.func67, Tryd.ntmps67
    go_wp2_with fail
    go_ret2
    exact ⟨Below.refl _ _, rfl⟩
  by_cases h4 : 4000 < n
  · have hP : Fr.put l = .error 2 := by unfold Fr.put; rw [if_neg (by omega), if_pos (by omega)]
    rw [hP]
    have e0 : ((n : Int) == 0) = false := by simp; omega
    have e1 : (4000 : Int) < (n : Int) := by omega
    go_enter Tryd.func67, Tryd.ntmps67
    go_wp2_with fail
    go_ret2
    exact ⟨Below.refl _ _, rfl⟩
  · have hP : Fr.put l = .ok (Fr.frame l) := by unfold Fr.put; rw [if_neg (by omega), if_neg (by omega)]
    rw [hP]
    have e0 : ((n : Int) == 0) = false := by simp; omega
    have e1 : ¬ (4000 : Int) < (n : Int) := by omega
    have hbytes : (.cells #[.int .u8 ((n : Int) / 256), .int .u8 ((n : Int) % 256)] 5 (0, 0) : Obj) = .cells ((Fr.be2 n).map B).toArray 5 (0, 0) := by
      have h1 : ((n : Int) / 256) = ((UInt8.ofNat (n / 256)).toNat : Int) := by rw [UInt8.toNat_ofNat']; omega
      have h2 : ((n : Int) % 256) = ((UInt8.ofNat n).toNat : Int) := by rw [UInt8.toNat_ofNat']; omega
      rw [h1, h2]
      rfl
    have HBY := Lib.hid hbytes
    have HN := Lib.hid hn
    obtain ⟨s, hs⟩ : ∃ s, s = Cr.sum (Fr.be2 n ++ l) := ⟨_, rfl⟩
    have hsl : s < 4294967296 := by rw [hs]; exact Cr.sum_lt _
    have HF : Hid (Fr.frame l = Fr.be2 n ++ (Fr.be4 s ++ l)) := Lib.hid (by unfold Fr.frame; rw [hn, hs])
    have HS := Lib.hid hs
    clear hbytes hn hs hP
    go_enter Tryd.func67, Tryd.ntmps67
    go_upto_region 7 with (fail)
    rw [HBY.out]
    obtain ⟨w2, hw2⟩ : ∃ w2, w2 = w.alloc (.cells ((Fr.be2 n).map B).toArray 5 (0, 0)) := ⟨_, rfl⟩
    obtain ⟨g, hg⟩ : ∃ g, g = w.heap.size := ⟨_, rfl⟩
    have hrow2 : Row w.heap.size w2 (.slice (some ⟨g, 0, none⟩) 2 2) (Fr.be2 n) := by rw [hw2]; exact row_made w _ (Nat.le_refl _) _ (by simp [Fr.be2]) g 2 hg rfl
    have hb2 : Below w.heap.size w w2 := by rw [hw2]; exact (Below.refl _ _).alloc (Nat.le_refl _) _
    have hg2 : g < w2.heap.size := by rw [hw2, hg]; simp
    have hgw : w.heap.size ≤ g := by omega
    rw [← hw2, ← hg]
    clear hw2 hg
    have hb3 : Below w2.heap.size w2 (w2.alloc (.cells #[] 5)) := (Below.refl _ _).alloc (Nat.le_refl _) _
    have hown0 := row_none w2 w2.heap.size (Nat.le_refl _) w2.heap.size rfl
    have hbc2 : BC (w2.alloc (.cells #[] 5)) (some ⟨g, 0, none⟩) (Fr.be2 n) := by
      obtain ⟨A', c', hv, hbc, _⟩ := Row.form (base := w.heap.size) (own_below hrow2 hb3)
      injection hv with hv _ _
      rw [hv]
      exact hbc
    have hA3 : BCells (w2.alloc (.cells #[] 5)) w.heap.size A l := hb.below (hb2.trans (hb3.mono hb2.size))
    obtain ⟨n2, hn2⟩ : ∃ n2 : Nat, n2 = 2 := ⟨_, rfl⟩
    rw [show Value.slice (some ⟨g, 0, none⟩) 2 2 = Value.slice (some ⟨g, 0, none⟩) n2 2 by rw [hn2]]
    have HN2 : Hid ((Fr.be2 n).length = n2) := Lib.hid (by rw [hn2]; rfl)
    have HNN := Lib.hid hn2
    clear hn2
    have tok1 : True := trivial
    have tok2 : True := trivial
    go_wp2_with (first
      | (at_builtin; have _t := tok1; refine wpList_append_bytes ?hw1 (.tmp 21) (.tmp 22) rfl w2.heap.size (.slice (some ⟨w2.heap.size, 0, none⟩) 0 0) (some ⟨g, 0, none⟩) 2 n2 [] (Fr.be2 n) rfl HN2.out rfl hown0 hbc2 (by simp [Fr.be2]) (by simp) ?_; rotate_right; intro v5 w5 hown5 hgrow5; have hb5 : Below w2.heap.size w2 w5 := hb3.grown hgrow5 (by simp) (fun k hk => (World.ownsRow.lt hown0 k hk).1); have hA5 : BC w5 A l := (hb.below (hb2.trans (hb5.mono hb2.size))).bc; clear tok1)
      | (at_builtin; have _t := tok2; have _h := hown5; refine wpList_append_bytes ?hw2 (.tmp 23) (.tmp 24) rfl w2.heap.size v5 A c n ([] ++ Fr.be2 n) l rfl HN.out rfl hown5 hA5 (by have := HN.out; simp [Fr.be2]; omega) hb5.size ?_; rotate_right; intro v6 w6 hown6 hgrow6; have hb6 : Below w2.heap.size w2 w6 := hb5.grown hgrow6 hb5.size (fun k hk => (World.ownsRow.lt hown5 k hk).1); clear tok2 hgrow6))
    obtain ⟨A6, c6, hv6, hA6, hlo6⟩ := hown6.form
    subst hv6
    have hz6 : ([] ++ Fr.be2 n ++ l : List UInt8) = Fr.be2 n ++ l := by rw [List.nil_append]
    rw [hz6] at hown6 ⊢
    have hzl : (Fr.be2 n ++ l).length ≤ 9223372036854775807 := by have := HN.out; simp [Fr.be2]; omega
    have HOF := Lib.hid (refOf_any A6 _ _ c6 w6 rfl hzl (row_cells hown6))
    rw [← HS.out] at HOF
    refine HOF.out.mono ?_
    rintro _ w7 ⟨rfl, hb7⟩
    have hb27 := hb6.trans (hb7.mono hb6.size)
    have hrow7 : Row w.heap.size w7 (.slice (some ⟨g, 0, none⟩) 2 2) (Fr.be2 n) := own_below hrow2 hb27
    have hbw7 := hb2.trans (hb27.mono hb2.size)
    have HR7 := Lib.hid hrow7
    obtain ⟨i0, hi0, hz0, hz1, hz2⟩ := info_parts Tryd.infoByte
    clear hown6 hb6 hb27 hb7 hA6 hlo6 hown5 hb5 hA5 hown0 hbc2 hA3 hb3 hrow2 hrow7 hgrow5 hzl HOF hb2
    go_wp2_with fail
    go_loopw [5, 7] (fun ov sv wr => PutRel w n s ov sv wr) (fun _ sv _ => (intOf sv).toNat)
    case atStart => exact ⟨0, some ⟨g, 0, none⟩, 2, by omega, rfl, by rw [HNN.out], by rw [List.take_zero, List.append_nil]; exact HR7.out, hbw7⟩
    case round =>
      obtain ⟨j, A', c', hj, rfl, rfl, hrow, hbe⟩ := hrel
      by_cases hj4 : j < 4
      · obtain ⟨hs1, hs2, hs3⟩ := scale_next j hj4
        have hbyte := be4_byte s j hj4
        have htk : (Fr.be4 s).take (j + 1) = (Fr.be4 s).take j ++ [UInt8.ofNat (s / scaleOf j)] := by
          rw [← hbyte]
          exact List.take_succ_eq_append_getElem _
        obtain ⟨sc, hsc⟩ : ∃ sc, sc = scaleOf j := ⟨_, rfl⟩
        obtain ⟨sc2, hsc2⟩ : ∃ sc, sc = scaleOf (j + 1) := ⟨_, rfl⟩
        rw [← hsc] at hs1 hs2 hs3 htk ⊢
        rw [← hsc2] at hs1
        have hlen : (Fr.be2 n ++ (Fr.be4 s).take j).length = 2 + j := by
          rw [List.length_append, List.length_take]
          show 2 + min j 4 = 2 + j
          omega
        have hown : wr.ownsRow w.heap.size 5 1 (.slice A' (2 + j) c') (2 + j) ((Fr.be2 n ++ (Fr.be4 s).take j).map B) := by
          have h := hrow
          unfold Row at h
          rwa [hlen] at h
        have hbv : ((s : Int) / (sc : Int)) % 256 = ((UInt8.ofNat (s / sc)).toNat : Int) := by
          rw [UInt8.toNat_ofNat', ← Int.natCast_ediv]
          omega
        have HTK := Lib.hid htk
        have HLEN := Lib.hid hlen
        have hlo := fun k (hk : (Value.slice A' (2 + j) c').ownBlock = some k) => (World.ownsRow.lt hown k hk).1
        have HSC2 := Lib.hid hsc2
        have HBV := Lib.hid hbv
        have hn1 : ((sc : Int) / 256) = (sc2 : Int) := by omega
        have h63 : 2 + j + 1 ≤ maxLen := by unfold maxLen; omega
        have hp1 : (0 : Int) < (sc : Int) := by omega
        have hp2 : ((sc : Int) == 0) = false := by simp; omega
        have HM : Hid (sc2 < sc) := Lib.hid (by omega)
        have hH := hbe.size
        clear hrow hbyte htk hlen hs1 hsc hsc2 hbv
        go_wp2_with (at_builtin; refine wpList_append_lies _ rfl (.tmp 31) (.tmp 37) _ rfl w.heap.size 5 i0 _ 1 1 Tryd.underlying36 hi0 hz0 hz1 hz2 rfl (by omega) _ (2 + j) _ rfl (hown.alloc _) ⟨wr.heap.size, 0, none⟩ 1 1 [_] rfl rfl (World.news_of_block (cs := #[_]) (t := 5) (fr := (0, 0)) (heap_alloc_new wr _)) (by simp [Value.oneCell']) (by omega) h63 (by omega) (by simp; omega) (wr.heap.size + 1) (by simp) ?_; intro gg cp w9 hown9 hgrow9 hat9 hlt9)
        have hfin : Row w.heap.size w9 (.slice (some ⟨gg, 0, none⟩) (2 + j + 1) cp) (Fr.be2 n ++ (Fr.be4 s).take (j + 1)) := by
          unfold Row
          rw [HTK.out, ← List.append_assoc, List.map_append, List.length_append, HLEN.out]
          have h := hown9
          rw [HBV.out] at h
          exact h
        have hbe9 := (hbe.alloc hH _).grown hgrow9 (by simp; omega) hlo
        have HFIN := Lib.hid hfin
        clear hown9 hgrow9 hfin hat9 hown
        go_roundw
        case rel => exact ⟨j + 1, some ⟨gg, 0, none⟩, cp, by omega, by rw [← HSC2.out], rfl, HFIN.out, hbe9⟩
        case measure => have := HM.out; simp [intOf]; omega
      · obtain rfl : j = 4 := by omega
        have hA9 : BC wr A l := (hb.below hbe).bc
        have hH := hbe.size
        rw [show scaleOf 4 = 0 from rfl]
        rw [show (Fr.be4 s).take 4 = Fr.be4 s from rfl] at hrow
        go_wp2_with (at_builtin; refine wpList_append_bytes ?hw3 (.tmp 39) (.tmp 40) rfl w.heap.size (.slice A' (2 + 4) c') A c n (Fr.be2 n ++ Fr.be4 s) l rfl HN.out rfl hrow hA9 (by have := HN.out; simp [Fr.be2, Fr.be4]; omega) hH ?_; rotate_right; intro v9 w9 hown9 hgrow9)
        have hbe9 := hbe.grown hgrow9 hH (fun k hk => (World.ownsRow.lt hrow k hk).1)
        obtain ⟨A9, c9, hv9, _⟩ := hown9.form
        subst hv9
        rw [List.append_assoc, ← HF.out] at hown9 ⊢
        go_ret2
        exact ⟨hbe9, A9, c9, rfl, hown9⟩
end Go.Proofs.YtkmljbbnpjlehaaDoor
