/- Trees of records, plain: what is added, put and dropped, what came of what; each parent lies ahead of its kids, what is dropped is what lies below. No condition. -/
import Derived.Test.YtfeaonbeklmfgaaGreatDoorRkP
namespace Go.Proofs.YtfeaonbeklmfgaaGreatDoor
set_option maxRecDepth 8000
namespace Tr
abbrev R := Rk.R
abbrev Nm := List UInt8

/-- Where a name lies: as many as there are, if it does not. -/
def pl (l : List R) (n : Nm) : Nat := l.findIdx (fun r => decide (r.name = n))
def has (l : List R) (n : Nm) : Bool := decide (pl l n < l.length)
def addE (room : Nat) (l : List R) (r : R) : Nat :=
  if Rk.right r = false then 1 else if has l r.name = true then 7 else if r.parent ≠ [] ∧ has l r.parent = false then 6 else if room ≤ l.length then 5 else 0
def add (room : Nat) (l : List R) (r : R) : List R := if addE room l r = 0 then l ++ [r] else l
def putE (l : List R) (r : R) : Nat :=
  if Rk.right r = false then 1 else if h : pl l r.name < l.length then (if l[pl l r.name].parent = r.parent then 0 else 8) else 6
def put (l : List R) (r : R) : List R := if putE l r = 0 then l.set (pl l r.name) r else l
def kids (l : List R) (n : Nm) : List Nm := (l.filter (fun r => decide (r.parent = n))).map (·.name)
def bel (l : List R) : Nat → Nm → List Nm
  | 0, _ => []
  | f + 1, n => n :: (kids l n).flatMap (bel l f)
def below (l : List R) (n : Nm) : List Nm := if has l n = true then bel l l.length n else []
def pth (l : List R) : Nat → Nm → List Nm
  | 0, _ => []
  | f + 1, n => if h : pl l n < l.length then n :: pth l f l[pl l n].parent else []
def path (l : List R) (n : Nm) : List Nm := pth l l.length n
def but (l : List R) (gone : List Nm) : List R := l.filter (fun r => !decide (r.name ∈ gone))
def drop (l : List R) (n : Nm) : List R := but l (below l n)

theorem pl_name {l : List R} {n : Nm} (h : pl l n < l.length) : l[pl l n].name = n := of_decide_eq_true (List.findIdx_getElem (p := fun r : R => decide (r.name = n)) (xs := l) (w := h))
theorem pl_first {l : List R} {n : Nm} {j : Nat} (h : j < pl l n) (hj : j < l.length) : l[j].name ≠ n := by
  have := List.not_of_lt_findIdx h
  simpa using this
theorem pl_le {l : List R} {n : Nm} {j : Nat} (hj : j < l.length) (h : l[j].name = n) : pl l n ≤ j := by
  rcases Nat.lt_or_ge j (pl l n) with h1 | h1
  · exact absurd h (pl_first h1 hj)
  · exact h1
theorem pl_len (l : List R) (n : Nm) : pl l n ≤ l.length := List.findIdx_le_length
theorem has_iff {l : List R} {n : Nm} : has l n = true ↔ pl l n < l.length := by unfold has; exact decide_eq_true_iff
theorem has_mem {l : List R} {n : Nm} : pl l n < l.length ↔ ∃ r ∈ l, r.name = n := by
  unfold pl
  rw [List.findIdx_lt_length]
  simp

structure Good (room : Nat) (l : List R) : Prop where
  ok : ∀ r ∈ l, Rk.right r = true
  nd : (l.map (·.name)).Nodup
  up : ∀ a r b, l = a ++ r :: b → r.parent = [] ∨ ∃ q ∈ a, q.name = r.parent
  le : l.length ≤ room
theorem right_name {r : R} (h : Rk.right r = true) : r.name ≠ [] := by
  intro e
  unfold Rk.right Rk.okName at h
  rw [e] at h
  have : (Tk.tell []).2.2 = false := by decide +kernel
  rw [this] at h
  simp at h
theorem right_top {r : R} (h : Rk.right r = true) (hp : r.parent = []) : r.kind = 1 ∨ r.kind = 6 := by
  unfold Rk.right Rk.okParent at h
  rw [hp] at h
  have : (Tk.tell []).1 = 0 := by decide +kernel
  rw [this] at h
  unfold Rk.comes at h
  simp at h
  omega
section
variable {room : Nat} {l : List R}
theorem Good.nil (room : Nat) : Good room [] := ⟨fun _ h => (by cases h), List.nodup_nil, fun a r b h => (by cases a <;> cases h), Nat.zero_le _⟩
theorem Good.pl_at (g : Good room l) {k : Nat} (hk : k < l.length) : pl l l[k].name = k := by
  have h1 : pl l l[k].name ≤ k := pl_le hk rfl
  have h2 : pl l l[k].name < l.length := Nat.lt_of_le_of_lt h1 hk
  have h3 := pl_name h2
  have hn := g.nd
  rcases Nat.lt_or_ge (pl l l[k].name) k with h4 | h4
  · exact absurd h3 (by
      have := (List.pairwise_iff_getElem.1 (List.nodup_iff_pairwise_ne.1 hn)) (pl l l[k].name) k (by rw [List.length_map]; exact h2) (by rw [List.length_map]; exact hk) h4
      simpa using this)
  · omega
theorem Good.up_at (g : Good room l) {k : Nat} (hk : k < l.length) : l[k].parent = [] ∨ pl l l[k].parent < k := by
  rcases g.up (l.take k) l[k] (l.drop (k + 1)) (by rw [← List.drop_eq_getElem_cons hk, List.take_append_drop]) with h | ⟨q, hq, e⟩
  · exact .inl h
  · obtain ⟨j, hj, rfl⟩ := List.getElem_of_mem hq
    rw [List.length_take] at hj
    rw [List.getElem_take] at e
    have := pl_le (by omega) e
    exact .inr (by omega)
theorem Good.uniq (g : Good room l) {a b : R} (ha : a ∈ l) (hb : b ∈ l) (e : a.name = b.name) : a = b := by
  obtain ⟨i, hi, rfl⟩ := List.getElem_of_mem ha
  obtain ⟨j, hj, rfl⟩ := List.getElem_of_mem hb
  have h1 := g.pl_at hi
  rw [e, g.pl_at hj] at h1
  subst h1
  rfl
theorem Good.add (g : Good room l) (r : R) : Good room (Tr.add room l r) := by
  unfold Tr.add
  split
  · next h =>
    unfold Tr.addE at h
    split at h
    · cases h
    · next h1 =>
      split at h
      · cases h
      · next h2 =>
        split at h
        · cases h
        · next h3 =>
          split at h
          · cases h
          · next h4 =>
            have hnn : ∀ q ∈ l, q.name ≠ r.name := fun q hq e => h2 (has_iff.2 (has_mem.2 ⟨q, hq, e⟩))
            refine ⟨fun q hq => ?_, ?_, fun a q b e => ?_, by rw [List.length_append]; show l.length + 1 ≤ room; omega⟩
            · rw [List.mem_append, List.mem_singleton] at hq
              rcases hq with hq | rfl
              · exact g.ok q hq
              · simpa using h1
            · rw [List.map_append, List.nodup_append]
              refine ⟨g.nd, by simp, fun x hx y hy => ?_⟩
              rw [List.mem_map] at hx
              obtain ⟨q, hq, rfl⟩ := hx
              simp at hy
              rw [hy]
              exact hnn q hq
            · rcases List.append_eq_append_iff.1 e with ⟨a', h5, h6⟩ | ⟨c', h5, h6⟩
              · cases a' with
                | nil =>
                  simp at h5 h6
                  obtain ⟨h6, h7⟩ := h6
                  subst h6 h5
                  by_cases hp : r.parent = []
                  · exact .inl hp
                  · right
                    have : has a r.parent = true := by
                      by_cases hh : has a r.parent = true
                      · exact hh
                      · exact absurd ⟨hp, by simpa using hh⟩ h3
                    exact has_mem.1 (has_iff.1 this)
                | cons x y => simp at h6
              · cases c' with
                | nil =>
                  simp at h5 h6
                  obtain ⟨h6, h7⟩ := h6
                  subst h6 h5
                  by_cases hp : q.parent = []
                  · exact .inl hp
                  · right
                    have : has l q.parent = true := by
                      by_cases hh : has l q.parent = true
                      · exact hh
                      · exact absurd ⟨hp, by simpa using hh⟩ h3
                    exact has_mem.1 (has_iff.1 this)
                | cons x y =>
                  simp at h6
                  obtain ⟨rfl, h6⟩ := h6
                  exact g.up a q y h5
  · exact g
theorem put_map {l : List R} {r : R} (h : pl l r.name < l.length) : (l.set (pl l r.name) r).map (·.name) = l.map (·.name) := by
  rw [List.map_set]
  have h1 := pl_name h
  apply List.ext_getElem
  · simp
  · intro i h2 h3
    rw [List.getElem_set]
    split
    · next e => subst e; simpa using h1.symm
    · rfl
theorem Good.put (g : Good room l) (r : R) : Good room (Tr.put l r) := by
  unfold Tr.put
  by_cases h : putE l r = 0
  · rw [if_pos h]
    unfold putE at h
    split at h
    · cases h
    · next h1 =>
      split at h
      · next h2 =>
        split at h
        · next h3 =>
          refine ⟨fun q hq => ?_, by rw [put_map h2]; exact g.nd, fun a q b e => ?_, by rw [List.length_set]; exact g.le⟩
          · rcases List.mem_or_eq_of_mem_set hq with hq | rfl
            · exact g.ok q hq
            · simpa using h1
          · have hl : a.length < l.length := by
              have := congrArg List.length e
              rw [List.length_set, List.length_append, List.length_cons] at this
              omega
            have hq : (l.set (pl l r.name) r)[a.length]'(by rw [List.length_set]; exact hl) = q := by simp [e]
            have ha : (l.set (pl l r.name) r).take a.length = a := by simp [e]
            have hpar : l[a.length].parent = q.parent := by
              rw [List.getElem_set] at hq
              split at hq
              · next e2 => rw [← hq, ← h3]; simp only [e2]
              · rw [hq]
            rcases g.up_at hl with h5 | h5
            · left; rw [← hpar]; exact h5
            · right
              rw [← hpar]
              have h6 : pl l l[a.length].parent < l.length := by omega
              have h7 : pl l l[a.length].parent < (l.set (pl l r.name) r).length := by rw [List.length_set]; exact h6
              refine ⟨(l.set (pl l r.name) r)[pl l l[a.length].parent], ?_, ?_⟩
              · have h8 : (l.set (pl l r.name) r)[pl l l[a.length].parent] = a[pl l l[a.length].parent] := by simp [e]; rw [List.getElem_append_left]
                rw [h8]
                exact List.getElem_mem _
              · have h9 : ((l.set (pl l r.name) r).map (·.name))[pl l l[a.length].parent]'(by rw [List.length_map]; exact h7) = (l.map (·.name))[pl l l[a.length].parent]'(by rw [List.length_map]; exact h6) := by
                  simp only [put_map h2]
                rw [List.getElem_map, List.getElem_map] at h9
                rw [h9]
                exact pl_name h6
        · cases h
      · cases h
  · rw [if_neg h]
    exact g
end
theorem kids_mem {l : List R} {n k : Nm} : k ∈ kids l n ↔ ∃ r ∈ l, r.parent = n ∧ r.name = k := by
  unfold kids
  simp [List.mem_map, List.mem_filter, and_assoc]
/-- x is n, or came of it. -/
inductive Desc (l : List R) (n : Nm) : Nm → Prop
  | self : Desc l n n
  | kid {r : R} : r ∈ l → Desc l n r.parent → Desc l n r.name
section
variable {room : Nat} {l : List R}
theorem Desc.trans {a b c : Nm} (h : Desc l a b) (k : Desc l b c) : Desc l a c := by
  induction k with
  | self => exact h
  | kid hr _ ih => exact .kid hr ih
theorem bel_desc : ∀ (f : Nat) (n x : Nm), x ∈ bel l f n → Desc l n x
  | 0, _, _, h => by cases h
  | f + 1, n, x, h => by
    rw [bel, List.mem_cons] at h
    rcases h with rfl | h
    · exact .self
    · rw [List.mem_flatMap] at h
      obtain ⟨k, hk, hx⟩ := h
      obtain ⟨r, hr, hp, rfl⟩ := kids_mem.1 hk
      exact (Desc.kid hr (by rw [hp]; exact .self)).trans (bel_desc f _ x hx)
theorem Good.kid_up (g : Good room l) {n k : Nm} (hn : n ≠ []) (h : k ∈ kids l n) : pl l n < pl l k ∧ pl l k < l.length := by
  obtain ⟨r, hr, hp, rfl⟩ := kids_mem.1 h
  obtain ⟨i, hi, rfl⟩ := List.getElem_of_mem hr
  rw [g.pl_at hi]
  rcases g.up_at hi with h1 | h1
  · exact absurd (hp.symm.trans h1) hn
  · rw [hp] at h1
    exact ⟨h1, hi⟩
theorem Good.nm (g : Good room l) {n : Nm} (h : pl l n < l.length) : n ≠ [] := by
  obtain ⟨r, hr, rfl⟩ := has_mem.1 h
  exact right_name (g.ok r hr)
theorem Good.bel_kid (g : Good room l) : ∀ (f : Nat) (n : Nm), pl l n < l.length → l.length ≤ f + pl l n → ∀ r ∈ l, r.parent ∈ bel l f n → r.name ∈ bel l f n
  | 0, n, h1, h2, _, _, _ => by omega
  | f + 1, n, h1, h2, r, hr, h => by
    rw [bel, List.mem_cons] at h
    rw [bel, List.mem_cons, List.mem_flatMap]
    right
    rcases h with h | h
    · have hk : r.name ∈ kids l n := kids_mem.2 ⟨r, hr, h, rfl⟩
      obtain ⟨h3, h4⟩ := g.kid_up (g.nm h1) hk
      refine ⟨r.name, hk, ?_⟩
      cases f with
      | zero => omega
      | succ f => exact List.mem_cons_self
    · rw [List.mem_flatMap] at h
      obtain ⟨k, hk, hx⟩ := h
      obtain ⟨h3, h4⟩ := g.kid_up (g.nm h1) hk
      exact ⟨k, hk, g.bel_kid f k h4 (by omega) r hr hx⟩
theorem Good.desc_bel (g : Good room l) {n x : Nm} (hn : pl l n < l.length) {f : Nat} (hf : l.length ≤ f + pl l n) (h : Desc l n x) : x ∈ bel l f n := by
  induction h with
  | self =>
    cases f with
    | zero => omega
    | succ f => exact List.mem_cons_self
  | kid hr _ ih => exact g.bel_kid f n hn hf _ hr ih
theorem Good.desc_pl (g : Good room l) {n x : Nm} (hn : pl l n < l.length) (h : Desc l n x) : pl l n ≤ pl l x ∧ pl l x < l.length := by
  induction h with
  | self => exact ⟨Nat.le_refl _, hn⟩
  | @kid r hr _ ih =>
    have hk : r.name ∈ kids l r.parent := kids_mem.2 ⟨r, hr, rfl, rfl⟩
    have := g.kid_up (g.nm ih.2) hk
    omega
theorem below_mem (g : Good room l) {n x : Nm} (hn : pl l n < l.length) : x ∈ below l n ↔ Desc l n x := by
  unfold below
  rw [if_pos (has_iff.2 hn)]
  exact ⟨bel_desc _ _ _, g.desc_bel hn (by omega)⟩
theorem below_none {n : Nm} (hn : ¬ pl l n < l.length) : below l n = [] := by
  unfold below
  rw [if_neg (fun h => hn (has_iff.1 h))]
theorem Good.desc_line (g : Good room l) {a b x : Nm} (h1 : Desc l a x) (h2 : Desc l b x) : Desc l a b ∨ Desc l b a := by
  induction h1 with
  | self => exact .inr h2
  | @kid r hr h3 ih =>
    generalize hz : r.name = z at h2
    cases h2 with
    | self => exact .inl (hz ▸ .kid hr h3)
    | @kid q hq h4 =>
      have := g.uniq hr hq hz
      subst this
      exact ih h4
theorem Good.bel_nodup (g : Good room l) : ∀ (f : Nat) (n : Nm), pl l n < l.length → (bel l f n).Nodup
  | 0, _, _ => List.nodup_nil
  | f + 1, n, hn => by
    rw [bel, List.nodup_cons]
    have hnn := g.nm hn
    refine ⟨fun h => ?_, ?_⟩
    · rw [List.mem_flatMap] at h
      obtain ⟨k, hk, hx⟩ := h
      have h1 := g.kid_up hnn hk
      have h2 := g.desc_pl h1.2 (bel_desc _ _ _ hx)
      omega
    · have hkn : (kids l n).Nodup := g.nd.sublist (List.Sublist.map _ List.filter_sublist)
      have key : ∀ ks : List Nm, ks.Nodup → (∀ k ∈ ks, k ∈ kids l n) → (ks.flatMap (bel l f)).Nodup := by
        intro ks
        induction ks with
        | nil => intro _ _; exact List.nodup_nil
        | cons k r ih =>
          intro h1 h2
          rw [List.nodup_cons] at h1
          rw [List.flatMap_cons, List.nodup_append]
          have hk := g.kid_up hnn (h2 k List.mem_cons_self)
          refine ⟨g.bel_nodup f k hk.2, ih h1.2 (fun q hq => h2 q (List.mem_cons_of_mem _ hq)), fun x hx y hy e => ?_⟩
          subst e
          rw [List.mem_flatMap] at hy
          obtain ⟨q, hq, hy⟩ := hy
          have hq' := g.kid_up hnn (h2 q (List.mem_cons_of_mem _ hq))
          have d1 := bel_desc _ _ _ hx
          have d2 := bel_desc _ _ _ hy
          have step : ∀ a b : Nm, a ∈ kids l n → b ∈ kids l n → Desc l a b → a = b := by
            intro a b ha hb hd
            obtain ⟨rb, hrb, hpb, rfl⟩ := kids_mem.1 hb
            generalize hz : rb.name = z at hd
            cases hd with
            | self => rfl
            | @kid q hq h4 =>
              have := g.uniq hrb hq hz
              subst this
              rw [hpb] at h4
              have h5 := g.kid_up hnn ha
              have h6 := g.desc_pl h5.2 h4
              omega
          have e : k = q := by
            rcases g.desc_line d1 d2 with h | h
            · exact step k q (h2 k List.mem_cons_self) (h2 q (List.mem_cons_of_mem _ hq)) h
            · exact (step q k (h2 q (List.mem_cons_of_mem _ hq)) (h2 k List.mem_cons_self) h).symm
          rw [e] at h1
          exact h1.1 hq
      exact key _ hkn (fun _ h => h)
theorem Good.but (g : Good room l) {gone : List Nm} (h : ∀ r ∈ l, r.parent ∈ gone → r.name ∈ gone) : Good room (but l gone) := by
  refine ⟨fun r hr => g.ok r (List.mem_filter.1 hr).1, g.nd.sublist (List.Sublist.map _ List.filter_sublist), fun a r b e => ?_, Nat.le_trans (List.length_filter_le _ _) g.le⟩
  unfold Tr.but at e
  obtain ⟨a', b', e1, e2, e3⟩ := List.filter_eq_append_iff.1 e
  obtain ⟨c, d, e4, e5, e6, e7⟩ := List.filter_eq_cons_iff.1 e3
  have hr : r ∈ l := by rw [e1, e4]; simp
  rcases g.up (a' ++ c) r d (by rw [e1, e4, List.append_assoc]) with h1 | ⟨q, hq, h1⟩
  · exact .inl h1
  · right
    have hql : q ∈ l := by
      rw [e1, e4]
      rw [List.mem_append] at hq ⊢
      rcases hq with hq | hq
      · exact .inl hq
      · exact .inr (List.mem_append.2 (.inl hq))
    have hng : ¬ q.name ∈ gone := by
      intro hg
      rw [h1] at hg
      have := h r hr hg
      simp [this] at e6
    refine ⟨q, ?_, h1⟩
    rw [List.mem_append] at hq
    rcases hq with hq | hq
    · rw [← e2]
      exact List.mem_filter.2 ⟨hq, by simp [hng]⟩
    · exact absurd (by simp [hng]) (e5 q hq)
theorem Good.drop (g : Good room l) (n : Nm) : Good room (drop l n) := by
  unfold Tr.drop
  by_cases hn : pl l n < l.length
  · exact g.but fun r hr h => (below_mem g hn).2 (.kid hr ((below_mem g hn).1 h))
  · rw [below_none hn]
    exact g.but fun r hr h => absurd h (by simp)
theorem but_nil (l : List R) : but l [] = l := by simp [but]
theorem pth_none {f : Nat} {n : Nm} (h : ¬ pl l n < l.length) : pth l f n = [] := by
  cases f with
  | zero => rfl
  | succ f => rw [pth, dif_neg h]
theorem Good.pth_mem (g : Good room l) : ∀ (f : Nat) (n x : Nm), pl l x < l.length → pl l x < f → (n ∈ pth l f x ↔ (pl l n < l.length ∧ Desc l n x))
  | 0, _, _, _, h => by omega
  | f + 1, n, x, hx, h => by
    rw [pth, dif_pos hx, List.mem_cons]
    have hxn := pl_name hx
    have hmem : l[pl l x] ∈ l := List.getElem_mem hx
    have hup := g.up_at hx
    constructor
    · rintro (rfl | h1)
      · exact ⟨hx, .self⟩
      · by_cases hp : pl l l[pl l x].parent < l.length
        · rcases hup with h2 | h2
          · exact absurd h2 (g.nm hp)
          · obtain ⟨h3, h4⟩ := (g.pth_mem f n _ hp (by omega)).1 h1
            refine ⟨h3, ?_⟩
            rw [← hxn]
            exact .kid hmem h4
        · rw [pth_none hp] at h1
          cases h1
    · rintro ⟨h1, h2⟩
      obtain ⟨z, hz⟩ : ∃ z, z = x := ⟨_, rfl⟩
      rw [← hz] at h2
      cases h2 with
      | self => exact .inl hz
      | @kid r hr h3 =>
        right
        have e : r = l[pl l x] := g.uniq hr hmem (by rw [hxn]; exact hz)
        have hd := g.desc_pl h1 h3
        rw [← e]
        have hup' : r.parent = [] ∨ pl l r.parent < pl l x := by rw [e]; exact hup
        rcases hup' with h4 | h4
        · exact absurd h4 (g.nm hd.2)
        · exact (g.pth_mem f n _ hd.2 (by omega)).2 ⟨h1, h3⟩
theorem Good.path_mem (g : Good room l) {n x : Nm} (hx : pl l x < l.length) : n ∈ path l x ↔ (pl l n < l.length ∧ Desc l n x) := g.pth_mem _ n x hx hx
/-- What a path is. -/
theorem Good.pth_way (g : Good room l) : ∀ (f : Nat) (x : Nm), pl l x < l.length → pl l x < f → (pth l f x).length ≤ pl l x + 1 ∧ (pth l f x)[0]? = some x ∧ ∀ (k : Nat) (hk : k < (pth l f x).length), ∃ h : pl l (pth l f x)[k] < l.length, (k + 1 < (pth l f x).length ↔ l[pl l (pth l f x)[k]].parent ≠ []) ∧ ∀ hk1 : k + 1 < (pth l f x).length, l[pl l (pth l f x)[k]].parent = (pth l f x)[k + 1]
  | 0, _, _, h => by omega
  | f + 1, x, hx, h => by
    have hup := g.up_at hx
    have he : pth l (f + 1) x = x :: pth l f l[pl l x].parent := by rw [pth, dif_pos hx]
    simp only [he]
    by_cases hp : l[pl l x].parent = []
    · have h0 : pth l f l[pl l x].parent = [] := pth_none (fun h => g.nm h hp)
      simp only [h0]
      refine ⟨by simp, rfl, fun k hk => ?_⟩
      have hk0 : k = 0 := by simpa using hk
      subst hk0
      exact ⟨hx, by simp [hp], fun h => by simp at h⟩
    · have h2 : pl l l[pl l x].parent < pl l x := hup.resolve_left hp
      obtain ⟨i1, i2, i3⟩ := g.pth_way f l[pl l x].parent (by omega) (by omega)
      refine ⟨by rw [List.length_cons]; omega, rfl, fun k hk => ?_⟩
      cases k with
      | zero =>
        refine ⟨hx, ?_, fun h => ?_⟩
        · have : 0 < (pth l f l[pl l x].parent).length := by
            rcases Nat.eq_zero_or_pos (pth l f l[pl l x].parent).length with h | h
            · rw [List.getElem?_eq_none (by omega)] at i2; cases i2
            · exact h
          simp [hp, this]
        · simp only [List.getElem_cons_succ, List.getElem_cons_zero]
          have h3 : 0 < (pth l f l[pl l x].parent).length := by simpa using h
          rw [List.getElem?_eq_getElem h3] at i2
          exact (Option.some.inj i2).symm
      | succ k =>
        have hk' : k < (pth l f l[pl l x].parent).length := by simpa using hk
        obtain ⟨j1, j2, j3⟩ := i3 k hk'
        refine ⟨j1, by simpa using j2, fun h => ?_⟩
        exact j3 (by simpa using h)
theorem Good.path_top (g : Good room l) {x : Nm} (hx : pl l x < l.length) (k : Nat) (hk : k < (path l x).length) (h : pl l (path l x)[k] < l.length) (hl : k + 1 = (path l x).length) : l[pl l (path l x)[k]].kind = 1 ∨ l[pl l (path l x)[k]].kind = 6 := by
  obtain ⟨_, h2, _⟩ := (g.pth_way _ x hx hx).2.2 k hk
  refine right_top (g.ok _ (List.getElem_mem h)) ?_
  by_cases hp : l[pl l (path l x)[k]].parent = []
  · exact hp
  · exact absurd (h2.2 hp) (by unfold path at hl; omega)
/-- What is dropped is as much as what lay below. -/
theorem Good.drop_count (g : Good room l) {n : Nm} (hn : pl l n < l.length) : (below l n).length = ((l.map (·.name)).filter (fun x => decide (n ∈ path l x))).length := by
  have h1 : (below l n).Nodup := by
    unfold below
    rw [if_pos (has_iff.2 hn)]
    exact g.bel_nodup _ n hn
  have h2 : ((l.map (·.name)).filter (fun x => decide (n ∈ path l x))).Nodup := g.nd.sublist List.filter_sublist
  have hm : ∀ x, x ∈ below l n ↔ x ∈ (l.map (·.name)).filter (fun x => decide (n ∈ path l x)) := by
    intro x
    rw [below_mem g hn, List.mem_filter, List.mem_map]
    constructor
    · intro h
      have h3 := g.desc_pl hn h
      obtain ⟨r, hr, e⟩ := has_mem.1 h3.2
      exact ⟨⟨r, hr, e⟩, by rw [decide_eq_true_iff]; exact (g.path_mem h3.2).2 ⟨hn, h⟩⟩
    · rintro ⟨⟨r, hr, e⟩, h⟩
      rw [decide_eq_true_iff] at h
      exact ((g.path_mem (has_mem.2 ⟨r, hr, e⟩)).1 h).2
  exact ((List.perm_ext_iff_of_nodup h1 h2).2 hm).length_eq
end
end Tr
end Go.Proofs.YtfeaonbeklmfgaaGreatDoor
