/- What is read of what is written, plain: a change that is written is the first that is read. What is written of what is read, plain. -/
import Derived.Test.YtoaihehoediegaaDoorMg04
import Derived.Test.YtoaihehoediegaaDoorMg39
namespace Go.Proofs.YtoaihehoediegaaDoor
namespace Kv

theorem first_parts (k v r : Bytes) (a b : UInt8) (hk : k.length < 256) :
    first (UInt8.ofNat k.length :: (k ++ (a :: b :: (v ++ r)))) = (if 256 * a.toNat + b.toNat = 65535 then some (⟨k, [], true⟩, k.length + 3) else if v.length + r.length < 256 * a.toNat + b.toNat then none else some (⟨k, (v ++ r).take (256 * a.toNat + b.toNat), false⟩, k.length + 3 + (256 * a.toNat + b.toNat))) := by
  have hn : (UInt8.ofNat k.length).toNat = k.length := by rw [UInt8.toNat_ofNat']; omega
  have e0 : (UInt8.ofNat k.length :: (k ++ (a :: b :: (v ++ r)))).getD 0 0 = UInt8.ofNat k.length := rfl
  have e1 : (UInt8.ofNat k.length :: (k ++ (a :: b :: (v ++ r)))).getD (k.length + 1) 0 = a := by simp [List.getD]
  have e2 : (UInt8.ofNat k.length :: (k ++ (a :: b :: (v ++ r)))).getD (k.length + 2) 0 = b := by
    simp only [List.getD, List.getElem?_cons_succ]
    rw [List.getElem?_append_right (by omega), show k.length + 1 - k.length = 1 by omega]
    rfl
  have e3 : ((UInt8.ofNat k.length :: (k ++ (a :: b :: (v ++ r)))).drop 1).take k.length = k := by simp
  have e4 : (UInt8.ofNat k.length :: (k ++ (a :: b :: (v ++ r)))).drop (k.length + 3) = v ++ r := by
    rw [List.drop_succ_cons, List.drop_append, List.drop_of_length_le (by omega), show k.length + 2 - k.length = 2 by omega]
    rfl
  have e5 : (UInt8.ofNat k.length :: (k ++ (a :: b :: (v ++ r)))).length = k.length + 3 + (v.length + r.length) := by simp; omega
  unfold first
  rw [e0, hn, e1, e2, e3, e4, e5, if_neg (by omega)]
  dsimp only
  by_cases h5 : 256 * a.toNat + b.toNat = 65535
  · rw [if_pos h5, if_pos h5]
  · rw [if_neg h5, if_neg h5]
    by_cases h6 : v.length + r.length < 256 * a.toNat + b.toNat
    · rw [if_pos h6, if_pos (by omega)]
    · rw [if_neg h6, if_neg (by omega)]
theorem first_one {c : C} (h : right c = true) (r : Bytes) : first (one c ++ r) = some (c, (one c).length) := by
  obtain ⟨h1, h2, h3, h4⟩ := right_of h
  obtain ⟨k, v, g⟩ := c
  dsimp only at h1 h2 h3 h4
  cases g with
  | true =>
    have hv : v = [] := h4 rfl
    subst hv
    have e : one ⟨k, [], true⟩ ++ r = UInt8.ofNat k.length :: (k ++ (255 :: 255 :: ([] ++ r))) := by simp [one, tail]
    rw [e, first_parts k [] r 255 255 (by omega), if_pos (by rfl)]
    simp [one, tail]
  | false =>
    have e : one ⟨k, v, false⟩ ++ r = UInt8.ofNat k.length :: (k ++ (UInt8.ofNat (v.length / 256) :: UInt8.ofNat (v.length % 256) :: (v ++ r))) := by simp [one, tail]
    have hN : 256 * (UInt8.ofNat (v.length / 256)).toNat + (UInt8.ofNat (v.length % 256)).toNat = v.length := by rw [UInt8.toNat_ofNat', UInt8.toNat_ofNat']; omega
    rw [e, first_parts k v r _ _ (by omega), hN, if_neg (by omega), if_neg (by omega), List.take_left]
    simp [one, tail]
    omega
theorem dec_enc : ∀ (l : List C), l.all right = true → dec (enc l) = some l
  | [], _ => rfl
  | c :: r, h => by
    rw [List.all_cons, Bool.and_eq_true] at h
    have hl := one_len h.1
    rw [enc_cons, dec_step (fun e => by have := congrArg List.length e; rw [List.length_append, List.length_nil] at this; omega), first_one h.1]
    dsimp only
    rw [if_pos h.1, List.drop_left, dec_enc r h.2]
    rfl
theorem decode_encode {l : List C} {x : Bytes} (h : encode l = .ok x) : decode x = .ok l := by
  unfold encode at h
  split at h
  · next ha =>
    split at h
    · cases h
    · next hn =>
      injection h with h
      subst h
      unfold decode
      rw [if_neg hn, dec_enc l ha]
  · cases h
end Kv
end Go.Proofs.YtoaihehoediegaaDoor
namespace Go.Proofs.YtoaihehoediegaaDoor
namespace Kv

theorem first_inv {b : Bytes} {c : C} {n : Nat} (h : first b = some (c, n)) : b = one c ++ b.drop n := by
  have h0 := first_len h
  cases b with
  | nil => simp at h0; omega
  | cons x t =>
    have hx : x.toNat < 256 := UInt8.toNat_lt _
    have hlen : ¬ (x :: t).length < x.toNat + 3 := by
      intro hlt
      have e0 : ((x :: t).getD 0 0) = x := rfl
      unfold first at h
      rw [e0, if_pos hlt] at h
      cases h
    have ht : x.toNat + 2 ≤ t.length := by simp at hlen; omega
    obtain ⟨k, hk⟩ : ∃ k, k = t.take x.toNat := ⟨_, rfl⟩
    have hkl : k.length = x.toNat := by rw [hk, List.length_take]; omega
    obtain ⟨u, hu⟩ : ∃ u, u = t.drop x.toNat := ⟨_, rfl⟩
    have hul : 2 ≤ u.length := by rw [hu, List.length_drop]; omega
    have htk : t = k ++ u := by rw [hk, hu, List.take_append_drop]
    match u, hul, htk with
    | a :: d :: r, _, htk =>
      have hxk : x = UInt8.ofNat k.length := by
        apply UInt8.toNat_inj.1
        rw [UInt8.toNat_ofNat', hkl]
        omega
      have ha : a.toNat < 256 := UInt8.toNat_lt _
      have hd : d.toNat < 256 := UInt8.toNat_lt _
      have e : x :: t = UInt8.ofNat k.length :: (k ++ (a :: d :: ([] ++ r))) := by rw [htk, ← hxk]; rfl
      rw [e, first_parts k [] r a d (by omega)] at h
      rw [e]
      split at h
      · next h5 =>
        injection h with h
        injection h with hc hn
        subst hc hn
        have ea : a = 255 := by apply UInt8.toNat_inj.1; show a.toNat = 255; omega
        have ed : d = 255 := by apply UInt8.toNat_inj.1; show d.toNat = 255; omega
        subst ea ed
        have e4 : (UInt8.ofNat k.length :: (k ++ (255 :: 255 :: ([] ++ r)))).drop (k.length + 3) = r := by
          rw [List.drop_succ_cons, List.drop_append, List.drop_of_length_le (by omega), show k.length + 2 - k.length = 2 by omega]
          rfl
        rw [e4]
        simp [one, tail]
      · next h5 =>
        split at h
        · cases h
        · next h6 =>
          injection h with h
          injection h with hc hn
          rw [List.length_nil, Nat.zero_add] at h6
          obtain ⟨N, hN⟩ : ∃ N, N = 256 * a.toNat + d.toNat := ⟨_, rfl⟩
          rw [← hN] at hc hn h6
          subst hc hn
          have hvl : (r.take N).length = N := by rw [List.length_take]; omega
          have ea : a = UInt8.ofNat (N / 256) := by apply UInt8.toNat_inj.1; rw [UInt8.toNat_ofNat']; omega
          have ed : d = UInt8.ofNat (N % 256) := by apply UInt8.toNat_inj.1; rw [UInt8.toNat_ofNat']; omega
          have e4 : (UInt8.ofNat k.length :: (k ++ (a :: d :: ([] ++ r)))).drop (k.length + 3 + N) = r.drop N := by
            rw [show k.length + 3 + N = (k.length + 2 + N) + 1 by omega, List.drop_succ_cons, List.drop_append, List.drop_of_length_le (by omega), show k.length + 2 + N - k.length = N + 2 by omega]
            rfl
          rw [e4]
          simp [one, tail, hvl, ← ea, ← ed]
theorem enc_dec : ∀ (f : Nat) (b : Bytes) (l : List C), b.length ≤ f → decF f b = some l → enc l = b ∧ l.all right = true
  | 0, b, l, hf, h => by
    have hb : b = [] := List.eq_nil_of_length_eq_zero (by omega)
    subst hb
    injection h with h
    subst h
    exact ⟨rfl, rfl⟩
  | f + 1, b, l, hf, h => by
    unfold decF at h
    split at h
    · next hb =>
      injection h with h
      subst h
      exact ⟨hb.symm, rfl⟩
    · next hb =>
      split at h
      · cases h
      · next c n hc =>
        have hl := first_len hc
        split at h
        · next hr =>
          cases hd : decF f (b.drop n) with
          | none => rw [hd] at h; cases h
          | some m =>
            rw [hd] at h
            injection h with h
            subst h
            obtain ⟨h1, h2⟩ := enc_dec f (b.drop n) m (by rw [List.length_drop]; omega) hd
            exact ⟨by rw [enc_cons, h1]; exact (first_inv hc).symm, by rw [List.all_cons, hr, h2]; rfl⟩
        · cases h
theorem encode_decode {b : Bytes} {l : List C} (h : decode b = .ok l) : encode l = .ok b := by
  unfold decode at h
  split at h
  · cases h
  · next hn =>
    split at h
    · cases h
    · next m hm =>
      injection h with h
      subst h
      obtain ⟨h1, h2⟩ := enc_dec b.length b m (Nat.le_refl _) hm
      unfold encode
      rw [if_pos h2, h1, if_neg hn]
end Kv
end Go.Proofs.YtoaihehoediegaaDoor
