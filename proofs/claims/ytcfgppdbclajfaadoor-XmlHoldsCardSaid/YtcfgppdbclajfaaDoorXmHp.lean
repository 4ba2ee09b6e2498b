/- The element that XmlHolds makes of two shown texts: it is right, and its text is short; no program stands in it. No condition. -/
import Derived.Test.YtcfgppdbclajfaaDoorXmG
import Derived.Test.YtcfgppdbclajfaaDoorXmUn
import Derived.Test.YtcfgppdbclajfaaDoorXmAw
namespace Go.Proofs.YtcfgppdbclajfaaDoor
set_option maxRecDepth 8000
namespace Xm
def hN (s t : Bytes) : N := .mk [120] [([121], t)] s []
def hZ (s t : Bytes) : N := .mk [122] [] [] [hN s t, hN s t]
theorem hN_own {s t : Bytes} (hs : shownB s = true) (ht : shownB t = true) : own (hN s t) = true := by
  have h1 : nameB [120] = true := by decide
  have h2 : nameB [121] = true := by decide
  simp [hN, own, ownL, attrB, distinct, h1, h2, hs, ht]
theorem hZ_right {s t : Bytes} (hs : shownB s = true) (ht : shownB t = true) : right (hZ s t) = true := by
  have h1 : nameB [122] = true := by decide
  have h0 : shownB [] = true := rfl
  have ho := hN_own hs ht
  have hf : few (hZ s t) 8 200 = some 197 := rfl
  unfold right
  rw [hf]
  simp [hZ, own, ownL, distinct, h1, h0, ho]
theorem escape_bound : ∀ l : Bytes, (escape l).length ≤ 6 * l.length
  | [] => by simp [escape]
  | c :: l => by
    have ih := escape_bound l
    have h1 := of_decide_eq_true (byte_all (P := fun c => decide ((esc1 c).length ≤ 6)) (by decide +kernel) c)
    rw [escape_cons, List.length_append, List.length_cons]
    omega
theorem hZ_short (s t : Bytes) : (wr (hZ s t)).length ≤ 12 * (s.length + t.length) + 60 := by
  have h1 := escape_bound s
  have h2 := escape_bound t
  have e : wr (hZ s t) = 60 :: ([122] ++ []) ++ (62 :: ([] ++ ((wr (hN s t) ++ (wr (hN s t) ++ [])) ++ (60 :: 47 :: ([122] ++ [62]))))) := rfl
  have e2 : wr (hN s t) = 60 :: ([120] ++ (32 :: ([121] ++ ([61, 34] ++ (escape t ++ [34]))) ++ [])) ++ (62 :: (escape s ++ ([] ++ (60 :: 47 :: ([120] ++ [62]))))) := rfl
  have l2 : (wr (hN s t)).length ≤ (escape s).length + (escape t).length + 25 := by
    rw [e2]
    simp
    omega
  rw [e]
  simp
  omega
theorem esc_ne4 {l : Bytes} : ∀ x ∈ escape l, x ≠ 60 ∧ x ≠ 62 ∧ x ≠ 34 ∧ x ≠ 39 := by
  intro x hx
  unfold escape at hx
  obtain ⟨c, _, hc⟩ := List.mem_flatMap.1 hx
  have := byte_all (P := fun c => (esc1 c).all fun x => !(x == 60) && !(x == 62) && !(x == 34) && !(x == 39)) (by decide +kernel) c
  have h := List.all_eq_true.1 this x hc
  simpa [and_assoc] using h
end Xm
end Go.Proofs.YtcfgppdbclajfaaDoor
