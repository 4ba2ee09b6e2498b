/- That scheme and host are read in whatever case, and the scheme's own port is none: plain part. No condition. -/
import Derived.Test.YtndimjkdmhhohaaDoorNormalWalk
namespace Go.Proofs.YtndimjkdmhhohaaDoor
set_option maxRecDepth 8000
open Go.RowKit

def lowB (c : UInt8) : Bool := decide (97 ≤ c.toNat ∧ c.toNat ≤ 122)
theorem low_facts (c : UInt8) : lowB c = true → Url.lower c = c ∧ Url.hostB c = true := by
  have := Url.byte_all (P := fun c => !lowB c || ((Url.lower c == c) && Url.hostB c)) (by decide +kernel) c
  intro h
  rw [h] at this
  simpa using this
theorem low_great (c : UInt8) : lowB c = true → Url.lower (UInt8.ofNat (c.toNat - 32)) = c := by
  have := Url.byte_all (P := fun c => !lowB c || (Url.lower (UInt8.ofNat (c.toNat - 32)) == c)) (by decide +kernel) c
  intro h
  rw [h] at this
  simpa using this
theorem low_small {hs : List UInt8} (h : hs.all lowB = true) : Url.small hs = hs := by
  unfold Url.small
  have : hs.map Url.lower = hs.map id := List.map_congr_left fun c hc => (low_facts c (List.all_eq_true.1 h c hc)).1
  rw [this]
  simp

/-- A text whose small letters are a scheme, its mark, and letters: read up to the path. -/
theorem parse_any_case {sc hs b rest p : List UInt8} {n : Nat} (hsc : sc = Url.http ∨ sc = Url.https) (hb : Url.small b = sc ++ (Url.sep ++ hs)) (hh : hs.all lowB = true) (h0 : hs ≠ []) (h30 : hs.length ≤ 30)
    (hp : portPart rest = some (n, 47 :: p)) (hr : ∀ c t, rest = c :: t → Url.noDelim c = false) (hl : (b ++ rest).length ≤ 2000) :
    Url.parse (b ++ rest) = Url.tail3 sc hs (Url.dfl sc n) (47 :: p) := by
  obtain ⟨c, d, rfl, hc, hd⟩ := List.map_eq_append_iff.1 hb
  obtain ⟨m, h, rfl, hm, hh2⟩ := List.map_eq_append_iff.1 hd
  have hsep : m = Url.sep := small_sep hm
  subst hsep
  have hcl : c.length = sc.length := by rw [← hc]; simp
  have hhl : h.length = hs.length := by rw [← hh2]; simp
  have hall : h.all hostA = true := by
    rw [List.all_eq_true]
    intro x hx
    have : Url.lower x ∈ hs := by rw [← hh2]; exact List.mem_map.2 ⟨x, hx, rfl⟩
    exact (low_facts _ (List.all_eq_true.1 hh _ this)).2
  have hno : h.all Url.noDelim = true := by
    rw [List.all_eq_true] at hall ⊢
    exact fun x hx => Url.host_lower x (hall x hx)
  have hsch : Url.schemeOf (c ++ (Url.sep ++ h) ++ rest) = some (sc, h ++ rest) := by
    have e : c ++ (Url.sep ++ h) ++ rest = c ++ (Url.sep ++ (h ++ rest)) := by simp
    rw [e, scheme_cut]
    unfold schemeCut
    have hi : Lib.index (c ++ (Url.sep ++ (h ++ rest))) Url.sep = (c.length : Int) := index_sep c _ (by
      rcases hsc with rfl | rfl
      · exact no_58 http_no hc
      · exact no_58 https_no hc)
    rw [hi, if_pos (by omega), Int.toNat_natCast]
    have e1 : (c ++ (Url.sep ++ (h ++ rest))).take c.length = c := by simp
    have e2 : (c ++ (Url.sep ++ (h ++ rest))).drop (c.length + 3) = h ++ rest := by
      rw [← List.append_assoc]
      have : c.length + 3 = (c ++ Url.sep).length := by simp [Url.sep]
      rw [this]
      simp
    have e3 : Url.small c = sc := hc
    rw [e1, e2, e3, if_pos hsc]
  obtain ⟨t1, t2⟩ := Url.takeWhile_stop Url.noDelim h rest hno hr
  have hok : hostOk ((h ++ rest).takeWhile Url.noDelim) = true := by
    rw [t1]
    unfold hostOk
    rw [hall, decide_eq_true (p := h.length ≤ 64) (by omega)]
    have : h ≠ [] := by
      intro e
      rw [e] at hhl
      exact h0 (List.length_eq_zero_iff.1 hhl.symm)
    simp [this]
  have := parse_tail (l := c ++ (Url.sep ++ h) ++ rest) (n := n) (r2 := 47 :: p) (by omega) hsch hok (by rw [t2]; exact hp)
  rw [this, t1]
  congr 1
theorem port_slash (p : List UInt8) : portPart (47 :: p) = some (0, 47 :: p) := by simp [portPart]
theorem port_80 (p : List UInt8) : portPart ([58, 56, 48] ++ 47 :: p) = some (80, 47 :: p) := by
  show (Url.portOf ([56, 48] ++ 47 :: p |>.takeWhile Url.noEnd)).map (fun n => (n, ([56, 48] ++ 47 :: p).dropWhile Url.noEnd)) = _
  obtain ⟨t1, t2⟩ := Url.takeWhile_stop Url.noEnd [56, 48] (47 :: p) (by decide) (by intro c t h; cases h; decide)
  rw [t1, t2]
  have : Url.portOf [56, 48] = some 80 := by decide
  rw [this]
  rfl
theorem port_443 (p : List UInt8) : portPart ([58, 52, 52, 51] ++ 47 :: p) = some (443, 47 :: p) := by
  show (Url.portOf ([52, 52, 51] ++ 47 :: p |>.takeWhile Url.noEnd)).map (fun n => (n, ([52, 52, 51] ++ 47 :: p).dropWhile Url.noEnd)) = _
  obtain ⟨t1, t2⟩ := Url.takeWhile_stop Url.noEnd [52, 52, 51] (47 :: p) (by decide) (by intro c t h; cases h; decide)
  rw [t1, t2]
  have : Url.portOf [52, 52, 51] = some 443 := by decide
  rw [this]
  rfl
theorem tail_port {sc h : List UInt8} {n : Nat} {r : List UInt8} {u : Url.U} (he : Url.tail3 sc h n r = .ok u) : u.port = n ∧ u.scheme = sc ∧ u.host = h := by
  unfold Url.tail3 at he
  split at he
  · cases he
  · split at he
    · cases he; exact ⟨rfl, rfl, rfl⟩
    · split at he
      · cases he
      · cases he; exact ⟨rfl, rfl, rfl⟩
theorem tail_origin {sc h : List UInt8} {r : List UInt8} {u : Url.U} (he : Url.tail3 sc h 0 r = .ok u) : u.port = 0 ∧ Url.origin u = sc ++ (Url.sep ++ h) := by
  obtain ⟨h1, h2, h3⟩ := tail_port he
  refine ⟨h1, ?_⟩
  unfold Url.origin
  rw [if_pos h1, h2, h3]
  simp

/-- The three ways of writing are one. -/
theorem cases_one {sc pt hs a b p : List UInt8} {n : Nat} (hsc : sc = Url.http ∨ sc = Url.https) (hpt : portPart (pt ++ 47 :: p) = some (n, 47 :: p)) (hd : Url.dfl sc n = 0) (hpt0 : ∃ t, pt = 58 :: t) (hptl : pt.length ≤ 4)
    (ha : a = sc ++ (Url.sep ++ hs)) (hb : Url.small b = a) (hh : hs.all lowB = true) (h0 : hs ≠ []) (h30 : hs.length ≤ 30) (hp : p.length ≤ 100) :
    Url.parse (a ++ 47 :: p) = Url.tail3 sc hs 0 (47 :: p) ∧ Url.parse (b ++ 47 :: p) = Url.tail3 sc hs 0 (47 :: p) ∧ Url.parse (b ++ (pt ++ 47 :: p)) = Url.tail3 sc hs 0 (47 :: p) := by
  have hscl : sc.length ≤ 5 := by rcases hsc with rfl | rfl <;> decide
  have hal : a.length ≤ 38 := by rw [ha]; simp [Url.sep]; omega
  have hbl : b.length ≤ 38 := by rw [← small_len, hb]; exact hal
  have hsa : Url.small a = sc ++ (Url.sep ++ hs) := by
    rw [ha, small_append, small_append, low_small hh]
    rcases hsc with rfl | rfl <;> rfl
  have d0 := dfl_zero sc
  refine ⟨?_, ?_, ?_⟩
  · have := parse_any_case (p := p) hsc hsa hh h0 h30 (port_slash p) (by intro c t h; cases h; decide) (by simp; omega)
    rw [this, d0]
  · have := parse_any_case (p := p) hsc (hb.trans ha) hh h0 h30 (port_slash p) (by intro c t h; cases h; decide) (by simp; omega)
    rw [this, d0]
  · have := parse_any_case (p := p) (rest := pt ++ 47 :: p) hsc (hb.trans ha) hh h0 h30 hpt (by
      obtain ⟨t, rfl⟩ := hpt0
      intro c t' h
      cases h
      decide) (by simp; omega)
    rw [this, hd]
end Go.Proofs.YtndimjkdmhhohaaDoor
