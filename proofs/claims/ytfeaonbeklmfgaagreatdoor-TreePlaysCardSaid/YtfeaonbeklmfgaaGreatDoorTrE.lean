/- What package tree's Below answers: a closure that calls itself. Condition: each parent lies ahead of its kids. -/
import Derived.Test.YtfeaonbeklmfgaaGreatDoorTrC
namespace Go.Proofs.YtfeaonbeklmfgaaGreatDoor
set_option maxRecDepth 8000
open Go.RowKit

abbrev tellF (a bt c : Nat) : Value := .func (.func 45) #[] #[.pointer (some ⟨a, 0, none⟩), .pointer (some ⟨bt, 0, none⟩), .pointer (some ⟨c, 0, none⟩)]
/-- The closure's variables: the names that were told, the tree, itself. -/
structure WS (w0 w : World) (T a bt c : Nat) (v : Value) (acc : List (List UInt8)) : Prop where
  tree : w.heap[bt]? = some (.cells #[.pointer (some ⟨T, 0, none⟩)] 25 (0, 0))
  self : w.heap[c]? = some (.cells #[tellF a bt c] 74 (0, 0))
  names : w.heap[a]? = some (.cells #[v] 34 (0, 0))
  row : SRow w0.heap.size w v acc
  lt : w0.heap.size ≤ a
  below : Below w0.heap.size w0 w
theorem WS.ne_own {w0 w : World} {T a bt c : Nat} {v : Value} {acc : List (List UInt8)} (h : WS w0 w T a bt c v acc) : v.ownBlock ≠ some a ∧ v.ownBlock ≠ some bt ∧ v.ownBlock ≠ some c ∧ a ≠ bt ∧ a ≠ c := by
  have key : ∀ (b : Nat) (cs : Array Value) (t : TypeId), w.heap[b]? = some (.cells cs t (0, 0)) → t ≠ 9 → v.ownBlock ≠ some b := by
    intro b cs t hb ht e
    rcases h.row.2 with ⟨rfl, _⟩ | ⟨g, cap, cur, rfl, _, hg, _⟩
    · simp [Value.ownBlock] at e
    · simp [Value.ownBlock] at e
      subst e
      rw [hb] at hg
      injection hg with hg
      injection hg with _ hg _
      exact ht hg
  refine ⟨key a _ _ h.names (by decide), key bt _ _ h.tree (by decide), key c _ _ h.self (by decide), ?_, ?_⟩
  · intro e
    have h1 := h.names
    rw [e, h.tree] at h1
    injection h1 with h1
    injection h1 with _ h1 _
    exact absurd h1 (by decide)
  · intro e
    have h1 := h.names
    rw [e, h.self] at h1
    injection h1 with h1
    injection h1 with _ h1 _
    exact absurd h1 (by decide)
theorem WS.keep {w0 w w' : World} {T a bt c : Nat} {v : Value} {acc : List (List UInt8)} (h : WS w0 w T a bt c v acc) (hb : Below w.heap.size w w') : WS w0 w' T a bt c v acc :=
  ⟨(hb.block _ (lt_of_blk h.tree)).trans h.tree, (hb.block _ (lt_of_blk h.self)).trans h.self, (hb.block _ (lt_of_blk h.names)).trans h.names, own_below h.row hb, h.lt, h.below.trans (hb.mono h.below.size)⟩
/-- A name more is told. -/
theorem WS.push {w0 w w1 : World} {T a bt c g cg : Nat} {v : Value} {acc : List (List UInt8)} {n : List UInt8} (h : WS w0 w T a bt c v acc) (o : Obj) (hgr : (w.alloc o).grownBy w1 v.ownBlock) (hown : SRow w0.heap.size w1 (.slice (some ⟨g, 0, none⟩) (acc.length + 1) cg) (acc ++ [n])) (hat : v.ownBlock = some g ∨ w.heap.size ≤ g) :
    (w1.heap[a]? = some (.cells #[v] 34 (0, 0))) ∧ WS w0 (w1.setCell ⟨a, 0, none⟩ (.slice (some ⟨g, 0, none⟩) (acc.length + 1) cg)) T a bt c (.slice (some ⟨g, 0, none⟩) (acc.length + 1) cg) (acc ++ [n]) ∧
      OutT (fun x => x = a ∨ v.ownBlock = some x) w (w1.setCell ⟨a, 0, none⟩ (.slice (some ⟨g, 0, none⟩) (acc.length + 1) cg)) := by
  obtain ⟨n1, n2, n3, n4, n5⟩ := h.ne_own
  have hla := lt_of_blk h.names
  have hlb := lt_of_blk h.tree
  have hlc := lt_of_blk h.self
  have e1 : ∀ x, x < w.heap.size → v.ownBlock ≠ some x → w1.heap[x]? = w.heap[x]? := fun x hx hn => (hgr.block x (by simp; omega) (fun e => hn e.symm)).trans (Below.heap_alloc w o x hx)
  have ha1 := (e1 a hla n1).trans h.names
  have hga : g ≠ a := by
    rcases hat with h1 | h1
    · intro e
      exact n1 (by rw [h1, e])
    · omega
  have hsz : (w1.setCell ⟨a, 0, none⟩ (.slice (some ⟨g, 0, none⟩) (acc.length + 1) cg)).heap.size = w1.heap.size := World.size_setCell _ _ _
  have hz1 : w.heap.size ≤ w1.heap.size := Nat.le_trans (by simp) hgr.size
  refine ⟨ha1, ⟨?_, ?_, ?_, ?_, h.lt, ?_⟩, ?_⟩
  · exact (Below.heap_setCell w1 ⟨a, 0, none⟩ _ bt n4.symm).trans ((e1 bt hlb n2).trans h.tree)
  · exact (Below.heap_setCell w1 ⟨a, 0, none⟩ _ c n5.symm).trans ((e1 c hlc n3).trans h.self)
  · exact heap_setCell_same w1 a 0 _ _ _ ha1
  · exact own_kept hown (fun k hk => by
      simp [Value.ownBlock] at hk
      subst hk
      exact Below.heap_setCell w1 ⟨a, 0, none⟩ _ g hga)
  · exact ((h.below.alloc h.below.size o).grown hgr (by have := h.below.size; simp; omega) (fun k hk => (World.ownsRow.lt h.row k hk).1)).setCell (p := ⟨a, 0, none⟩) h.lt _
  · have o1 : OutT (fun x => x = a ∨ v.ownBlock = some x) w (w.alloc o) := OutT.of ((Below.refl _ _).alloc (Nat.le_refl _) _)
    have o2 : OutT (fun x => x = a ∨ v.ownBlock = some x) (w.alloc o) w1 := OutT.grown hgr (fun k hk => .inr hk)
    have o3 : OutT (fun x => x = a ∨ v.ownBlock = some x) w1 (w1.setCell ⟨a, 0, none⟩ (.slice (some ⟨g, 0, none⟩) (acc.length + 1) cg)) := OutT.set _ (.inl rfl)
    exact (o1.trans o2 (fun _ _ h => h) (fun _ _ h => h)).trans o3 (fun _ _ h => h) (fun _ _ h => h)
def TellPost (w0 w : World) (T a bt c : Nat) (v : Value) (acc : List (List UInt8)) (e : Ending) (w' : World) : Prop :=
  e = .returned (.tuple #[]) ∧ ∃ v', WS w0 w' T a bt c v' acc ∧ OutT (fun x => x = a ∨ v.ownBlock = some x) w w' ∧ ∀ k, v'.ownBlock = some k → v.ownBlock = some k ∨ w.heap.size ≤ k
theorem flat_take (l : List (List UInt8)) (f : List UInt8 → List (List UInt8)) (k : Nat) (hk : k < l.length) : (l.take (k + 1)).flatMap f = (l.take k).flatMap f ++ f l[k] := by
  rw [List.take_succ_eq_append_getElem hk, List.flatMap_append]
  simp
theorem flat_take_len (l : List (List UInt8)) (f : List UInt8 → List (List UInt8)) (k : Nat) (hk : k < l.length) : ((l.take k).flatMap f).length + (f l[k]).length ≤ (l.flatMap f).length := by
  rw [← List.length_append, ← flat_take l f k hk]
  conv => rhs; rw [← List.take_append_drop (k + 1) l, List.flatMap_append]
  rw [List.length_append]
  omega
set_option maxHeartbeats 3200000 in
theorem tell_any {G : Nat → Prop} {w0 : World} {T room m a bt c : Nat} {l : List Rk.R} (hg : Tr.Good m l) (hT : TreeAt G w0 T room l) (hl : l.length ≤ 1048576) :
    ∀ (f : Nat) (n : List UInt8) (v : Value) (acc : List (List UInt8)) (w : World), Tr.pl l n < l.length → l.length ≤ f + Tr.pl l n → acc.length + (Tr.bel l f n).length ≤ 1048576 → WS w0 w T a bt c v acc →
    Calls Tryz.prog 45 #[.string (S n), .pointer (some ⟨a, 0, none⟩), .pointer (some ⟨bt, 0, none⟩), .pointer (some ⟨c, 0, none⟩)] w (TellPost w0 w T a bt c v (acc ++ Tr.bel l f n))
  | 0, n, v, acc, w, h1, h2, _, _ => by omega
  | f + 1, n, v, acc, w, h1, h2, h3, hw => by
    have HIH := Lib.hid (tell_any (a := a) (bt := bt) (c := c) hg hT hl f)
    have HKA := Lib.hid (fun (w' : World) (hb : Below w0.heap.size w0 w') => kids_any n (hT.keep hb) hl)
    have hkt : kidsT l n = Tr.kids l n := by unfold kidsT; rw [if_pos (Tr.has_iff.2 h1)]
    have HKM := Lib.hid (fun (k : List UInt8) (hk : k ∈ Tr.kids l n) => hg.kid_up (hg.nm h1) hk)
    have hkl := kids_len l n
    obtain ⟨ks, hks⟩ : ∃ ks, ks = Tr.kids l n := ⟨_, rfl⟩
    rw [← hks] at hkt HKM hkl
    have HBE : Hid (Tr.bel l (f + 1) n = n :: ks.flatMap (Tr.bel l f)) := Lib.hid (by rw [hks]; rfl)
    rw [HBE.out, List.length_cons] at h3
    have HNUM := Lib.hid (And.intro h2 h3)
    have hnamesW := hw.names
    have htreeW := hw.tree
    have hcn := cell_of_row w a 0 _ _ _ hnamesW
    simp only [List.getElem?_toArray, List.getElem?_cons_zero] at hcn
    have HW := Lib.hid hw
    have hrow := hw.row
    have hbase := hw.below.size
    have HK2 := Lib.hid hkt
    have hacc : acc.length ≤ 1048576 := by omega
    clear hks hg hT hnamesW htreeW hw h1 h2 h3 hkt
    go_enter Tryz.func45, Tryz.ntmps45
    go_wp2_with (at_builtin; refine wpList_name rfl (.tmp 7) (.tmp 9) w0.heap.size w.heap.size _ acc n rfl rfl rfl (World.ownsRow.alloc hrow _) (heap_alloc_new w _) hacc (by rw [World.size_alloc]; omega) ?_; intro g cg w1 hown1 hgr1 hat1 hb1; have hpush := WS.push HW.out _ hgr1 hown1 (hat1.imp_right (fun h => by rw [World.size_alloc] at h; omega)); have HPU := Lib.hid hpush.2; have d1 := cell_of_row w1 a 0 _ _ _ hpush.1; simp only [List.getElem?_toArray, List.getElem?_cons_zero] at d1; have d2 := frozen_of_row w1 a 0 _ _ hpush.1; have d3 := cell_of_row _ bt 0 _ _ _ HPU.out.1.tree; simp only [List.getElem?_toArray, List.getElem?_cons_zero] at d3; have HAT := Lib.hid (show v.ownBlock = some g ∨ w.heap.size ≤ g from hat1.imp_right (fun h => by rw [World.size_alloc] at h; omega)); clear hpush hcn hb1 hat1)
    have HG1 := Lib.hid (show ∀ k, (Value.slice (some ⟨g, 0, none⟩) (acc.length + 1) cg).ownBlock = some k → v.ownBlock = some k ∨ w.heap.size ≤ k from fun k hk => by
      simp [Value.ownBlock] at hk
      subst hk
      exact HAT.out)
    clear d1 d2 hgr1 hown1
    generalize w1.setCell ⟨a, 0, none⟩ (.slice (some ⟨g, 0, none⟩) (acc.length + 1) cg) = w2 at HPU d3 ⊢
    refine (HKA.out w2 HPU.out.1.below).mono ?_
    rintro e w3 ⟨kv, rfl, hkr, hb3⟩
    rw [HK2.out] at hkr
    obtain ⟨KA, kc, rfl, -⟩ := readsS hkr
    have hz2 : w.heap.size ≤ w2.heap.size := HPU.out.2.size
    have hz3 := hb3.size
    have HA2 := Lib.hid (lt_of_blk HPU.out.1.names)
    have HKR := Lib.hid hkr
    have HW3 := Lib.hid (HPU.out.1.keep hb3)
    have HO3 := Lib.hid (HPU.out.2.trans (OutT.of (F := fun x => x = a ∨ v.ownBlock = some x) hb3) (fun _ _ h => h) (fun _ _ h => h))
    have HV3 := Lib.hid (show ∀ k, (Value.slice (some ⟨g, 0, none⟩) (acc.length + 1) cg).ownBlock = some k → (v.ownBlock = some k ∨ w.heap.size ≤ k) ∧ k < w2.heap.size from fun k hk => ⟨HG1.out k hk, (World.ownsRow.lt HPU.out.1.row k hk).2⟩)
    clear hkr hb3 d3
    go_wp2_with fail
    go_loopw [15] (fun iv wr => ∃ (k : Nat) (v' : Value), k ≤ ks.length ∧ iv = .int .i64 k ∧ WS w0 wr T a bt c v' (acc ++ [n] ++ (ks.take k).flatMap (Tr.bel l f)) ∧ OutT (fun x => x = a ∨ v.ownBlock = some x) w wr ∧ (∀ q, v'.ownBlock = some q → v.ownBlock = some q ∨ w.heap.size ≤ q) ∧ SRow w2.heap.size wr (.slice KA ks.length kc) ks ∧ (∀ q, (Value.slice KA ks.length kc).ownBlock = some q → v'.ownBlock ≠ some q)) (fun iv _ => ks.length - (intOf iv).toNat)
    case atStart => exact ⟨0, _, Nat.zero_le _, rfl, by simpa using HW3.out, HO3.out, fun q hq => (HV3.out q hq).1, HKR.out, fun q hq e => by have := (HV3.out q e).2; have := (World.ownsRow.lt HKR.out q hq).1; omega⟩
    case round =>
      obtain ⟨k, v', hk, rfl, hws, ho, hown, hkr, hsep⟩ := hrel
      by_cases hlt : k < ks.length
      · obtain ⟨KA', kc', e, hcc⟩ := readsS hkr
        injection e with e1 e2 e3
        subst e1 e3
        obtain ⟨kb, ko, rfl, hkb, hcell⟩ := hcc (by omega)
        have hx := hcell k hlt
        have n0 : (0 : Int) ≤ (k : Int) := by omega
        have n1 : (k : Int) < (ks.length : Int) := by omega
        have hcs := cell_of_row wr c 0 _ _ _ hws.self
        simp only [List.getElem?_toArray, List.getElem?_cons_zero] at hcs
        have hku := HKM.out ks[k] (List.getElem_mem hlt)
        have hfl := flat_take ks (Tr.bel l f) k hlt
        have hfn := flat_take_len ks (Tr.bel l f) k hlt
        have hca := HIH.out ks[k] v' (acc ++ [n] ++ (ks.take k).flatMap (Tr.bel l f)) wr hku.2 (by have := HNUM.out.1; omega) (by have := HNUM.out.2; simp only [List.length_append, List.length_singleton]; omega) hws
        have HWS := Lib.hid (And.intro hws (And.intro ho (And.intro hown (And.intro hkr hsep))))
        have HFL := Lib.hid hfl
        have HLT := Lib.hid hlt
        clear hcell hcc hku hfn hfl hws ho hown hkr hsep hkb
        generalize ks[k] = x at hx hca HFL
        have HCA := Lib.hid hca
        clear hca
        go_wp2_with fail
        refine HCA.out.mono ?_
        rintro e w5 ⟨rfl, v5, hws5, ho5, hown5⟩
        obtain ⟨hws, ho, hown, hkr, hsep⟩ := HWS.out
        have hla := lt_of_blk hws.names
        have hws6 : WS w0 w5 T a bt c v5 (acc ++ [n] ++ (ks.take (k + 1)).flatMap (Tr.bel l f)) := by rw [HFL.out, ← List.append_assoc]; exact hws5
        have ho6 : OutT (fun x => x = a ∨ v.ownBlock = some x) w w5 := ho.trans ho5 (fun _ _ h => h) (fun x hx h => by
          rcases h with h | h
          · exact .inl h
          · rcases hown x h with h | h
            · exact .inr h
            · omega)
        have hown6 : ∀ q, v5.ownBlock = some q → v.ownBlock = some q ∨ w.heap.size ≤ q := fun q hq => by
          rcases hown5 q hq with h | h
          · exact hown q h
          · exact .inr (Nat.le_trans ho.size h)
        have hkr6 : SRow w2.heap.size w5 (.slice (some ⟨kb, ko, none⟩) ks.length kc) ks := own_kept hkr (fun q hq => ho5.block q (World.ownsRow.lt hkr q hq).2 (fun h => by
          rcases h with h | h
          · have := (World.ownsRow.lt hkr q hq).1
            have := HA2.out
            omega
          · exact hsep q hq h))
        have hsep6 : ∀ q, (Value.slice (some ⟨kb, ko, none⟩) ks.length kc).ownBlock = some q → v5.ownBlock ≠ some q := fun q hq e => by
          rcases hown5 q e with h | h
          · exact hsep q hq h
          · have := (World.ownsRow.lt hkr q hq).2
            omega
        have HREL := Lib.hid (And.intro hws6 (And.intro ho6 (And.intro hown6 (And.intro hkr6 hsep6))))
        clear hws5 ho5 hown5 hws ho hown hkr hsep hws6 ho6 hown6 hkr6 hsep6 HWS HCA
        go_wp2_with fail
        go_roundw
        case rel => exact ⟨k + 1, v5, by have := HLT.out; omega, by go_num, HREL.out⟩
        case measure => have := HLT.out; simp [intOf]; omega
      · have hkn : k = ks.length := by omega
        subst hkn
        have HF := Lib.hid (show TellPost w0 w T a bt c v (acc ++ Tr.bel l (f + 1) n) (.returned (.tuple #[])) wr from ⟨rfl, v', by rw [HBE.out]; rw [List.take_of_length_le (Nat.le_refl _)] at hws; simpa using hws, ho, hown⟩)
        clear hws ho hown hkr hsep
        go_wp2_with fail
        exact bodyPost_end (results_none rfl _ _ _) rfl HF.out
end Go.Proofs.YtfeaonbeklmfgaaGreatDoor
