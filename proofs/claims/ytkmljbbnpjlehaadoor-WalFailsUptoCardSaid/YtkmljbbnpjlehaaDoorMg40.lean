/- Two logs, each on a disk of its own, side by side. Condition: the table of sums reads as its text lays it. One thing that is done, ahead of others, in a list of its own: append([]Op{o}, l...). No condition. -/
import Derived.Test.YtkmljbbnpjlehaaDoorMg39
import Derived.Test.YtkmljbbnpjlehaaDoorMg37
import Derived.Test.YtkmljbbnpjlehaaDoorMg34
namespace Go.Proofs.YtkmljbbnpjlehaaDoor
set_option maxRecDepth 8000
open Go.RowKit

/-- Nothing is done to blocks of X. -/
structure XS (X : Nat → Prop) (w w' : World) : Prop where
  os : w'.os = w.os
  tape : w'.tape = w.tape
  output : w'.output = w.output
  size : w.heap.size ≤ w'.heap.size
  blk : ∀ x, X x → w'.heap[x]? = w.heap[x]?
theorem XS.trans {X : Nat → Prop} {a b c : World} (h : XS X a b) (k : XS X b c) : XS X a c := ⟨k.os.trans h.os, k.tape.trans h.tape, k.output.trans h.output, Nat.le_trans h.size k.size, fun x hx => (k.blk x hx).trans (h.blk x hx)⟩
theorem XS.below {X : Nat → Prop} {a b : World} (h : XS X a b) {base : Nat} (hb : ∀ x, x < base → X x) : Below base a b := ⟨h.os, h.tape, h.output, h.size, fun k hk => h.blk k (hb k hk)⟩
theorem XS.of {X : Nat → Prop} {a b : World} (h : Below a.heap.size a b) (hX : ∀ x, X x → x < a.heap.size) : XS X a b := ⟨h.os, h.tape, h.output, h.size, fun x hx => h.block x (hX x hx)⟩
/-- Two logs; none of their blocks is of X. -/
def TZ (X : Nat → Prop) (w : World) (P L P' L' : Nat) (d : Dk.D) (l : Wl.L) (d' : Dk.D) (l' : Wl.L) : Prop :=
  ∃ F F' : Nat → Prop, SY F w P L d l ∧ SY F' w P' L' d' l' ∧ (∀ x, F x → ¬ F' x) ∧ (∀ x, F x → ¬ X x ∧ x < w.heap.size) ∧ (∀ x, F' x → ¬ X x ∧ x < w.heap.size) ∧ ∀ x, X x → x < w.heap.size
section
variable {X : Nat → Prop} {w w' : World} {P L P' L' : Nat} {d d' : Dk.D} {l l' : Wl.L}
theorem TZ.swap (h : TZ X w P L P' L' d l d' l') : TZ X w P' L' P L d' l' d l := by
  obtain ⟨F, F', h1, h2, h3, h4, h5, h6⟩ := h
  exact ⟨F', F, h2, h1, fun x hx hy => h3 x hy hx, h5, h4, h6⟩
theorem TZ.keep (h : TZ X w P L P' L' d l d' l') (hb : Below w.heap.size w w') : TZ X w' P L P' L' d l d' l' := by
  obtain ⟨F, F', h1, h2, h3, h4, h5, h6⟩ := h
  have hz := hb.size
  exact ⟨F, F', h1.keep hb, h2.keep hb, h3, fun x hx => ⟨(h4 x hx).1, Nat.lt_of_lt_of_le (h4 x hx).2 hz⟩, fun x hx => ⟨(h5 x hx).1, Nat.lt_of_lt_of_le (h5 x hx).2 hz⟩, fun x hx => Nat.lt_of_lt_of_le (h6 x hx) hz⟩
theorem TZ.lt (h : TZ X w P L P' L' d l d' l') : ∀ x, X x → x < w.heap.size := by
  obtain ⟨F, F', h1, h2, h3, h4, h5, h6⟩ := h
  exact h6
theorem TZ.sy (h : TZ X w P L P' L' d l d' l') : ∃ F : Nat → Prop, SY F w P L d l ∧ ∀ x, F x → ¬ X x := by
  obtain ⟨F, F', h1, h2, h3, h4, h5, h6⟩ := h
  exact ⟨F, h1, fun x hx => (h4 x hx).1⟩
theorem TZ.step {F F' : Nat → Prop} {d2 : Dk.D} {l2 : Wl.L} {L2 : Nat} (h2 : SY F' w P' L' d' l') (h3 : ∀ x, F x → ¬ F' x) (h4 : ∀ x, F x → ¬ X x ∧ x < w.heap.size) (h5 : ∀ x, F' x → ¬ X x ∧ x < w.heap.size) (h6 : ∀ x, X x → x < w.heap.size)
    (h : SY (Or F w.heap.size w'.heap.size) w' P L2 d2 l2) (ho : OutP F w w') : TZ X w' P L2 P' L' d2 l2 d' l' ∧ XS X w w' := by
  have hz := ho.size
  refine ⟨⟨_, F', h, h2.out ho (fun x hx hy => h3 x hy hx), fun x hx hy => ?_, fun x hx => ?_, fun x hx => ⟨(h5 x hx).1, Nat.lt_of_lt_of_le (h5 x hx).2 hz⟩, fun x hx => Nat.lt_of_lt_of_le (h6 x hx) hz⟩, ho.os, ho.tape, ho.output, hz, fun x hx => ho.block x (h6 x hx) (fun hf => (h4 x hf).1 hx)⟩
  · rcases hx with hx | hx
    · exact h3 x hx hy
    · have := (h5 x hy).2
      omega
  · rcases hx with hx | hx
    · exact ⟨(h4 x hx).1, Nat.lt_of_lt_of_le (h4 x hx).2 hz⟩
    · exact ⟨fun hX => by have := h6 x hX; omega, hx.2⟩
def TPost (X : Nat → Prop) (w : World) (P L P' L' : Nat) (d2 : Dk.D) (l2 : Wl.L) (d' : Dk.D) (l' : Wl.L) (w' : World) : Prop := TZ X w' P L P' L' d2 l2 d' l' ∧ XS X w w'
theorem faults_t (h : TZ X w P L P' L' d l d' l') (A : Option Addr) (cap n : Nat) (p : List Bool) (hn : p.length = n) (hp : PlanIn w A cap p) : Calls Tryd.prog 37 #[.pointer (some ⟨P, 0, none⟩), .slice A n cap] w fun e w' => e = .returned (.tuple #[]) ∧ TPost X w P L P' L' { d with plan := p } l d' l' w' := by
  subst hn
  obtain ⟨F, F', h1, h2, h3, h4, h5, h6⟩ := h
  obtain ⟨G, m, g1, g2, g3, g4, g5, g6⟩ := h1
  refine (faults_hd g3 A cap p hp).mono ?_
  rintro e w' ⟨rfl, g7, g8⟩
  have hz := g8.size
  refine ⟨rfl, TZ.step h2 h3 h4 h5 h6 ⟨Or G w.heap.size w'.heap.size, m, g1, g2, g7, g4.same (fun x hx => g8.block x (g4.lt x hx) (g5 x hx).1) hz, fun x hx => ⟨fun hor => hor.elim (g5 x hx).1 (fun h => by have := g4.lt x hx; omega), .inl (g5 x hx).2⟩, fun x hx => ?_⟩ (g8.mono (fun x hx => (g6 x hx).1))⟩
  rcases hx with hx | hx
  · exact ⟨.inl (g6 x hx).1, by have := (g6 x hx).2; omega⟩
  · exact ⟨.inr hx, hx.2⟩
theorem open_t (h : TZ X w P L P' L' d l d' l') (hH : Hs w) (hst : d.st = []) {c N : Nat} {k : Wl.L} (hn : d.n = N) (hi : Wl.Inv c N d.kept k) :
    Calls Tryd.prog 16 #[.pointer (some ⟨P, 0, none⟩)] w fun e w' => ∃ L2, e = .returned (.tuple #[.pointer (some ⟨L2, 0, none⟩), .int .i64 0]) ∧ (∃ F, SY F w' P L2 d k) ∧ Below w.heap.size w w' := by
  obtain ⟨F, F', h1, h2, h3, h4, h5, h6⟩ := h
  refine (open_sy h1 hH hst hn hi).mono ?_
  rintro e w' ⟨L2, rfl, h7, h8⟩
  exact ⟨L2, rfl, ⟨_, h7⟩, h8⟩
theorem records_s {F : Nat → Prop} (h : SY F w P L d l) (hH : Hs w) {c N : Nat} {kept : List UInt8} (hi : Wl.Inv c N kept l) : Calls Tryd.prog 33 #[.pointer (some ⟨L, 0, none⟩)] w (RecOwn (Wl.rds l) w) := by
  have hu := hi.used
  have hul := Wl.areaBytes_lt hi.n512
  obtain ⟨m, rfl, _, hm⟩ := h.at
  exact records_own w m l hH hm (by omega)
theorem staged_s {F : Nat → Prop} (h : SY F w P L d l) : Calls Tryd.prog 23 #[.pointer (some ⟨P, 0, none⟩)] w fun e w' => e = .returned (.int .i64 d.st.length) ∧ w = w' := by
  obtain ⟨a, rfl, h1, _⟩ := h.hd
  exact staged_any w a d h1
end
set_option maxHeartbeats 1600000 in
/-- The statements' do: an Append or a Replace; which disk it is told does not matter. -/
theorem do_s {F : Nat → Prop} {w : World} {P L X : Nat} {d : Dk.D} {l : Wl.L} (h : SY F w P L d l) (_hF : ∀ x, F x → x < w.heap.size) (hH : Hs w) (hnH : ¬ F 0) (hst : d.st = []) {c N : Nat} (hn : d.n = N) (hi : Wl.Inv c N d.kept l) (ox oi : Int) (hx : ox = 1 ∨ ox = 2)
    (mA mL mG : Option Addr) (nb mcA nl mcL np mcG : Nat) (ob : List UInt8) (ol : List (List UInt8)) (hA : BCells w w.heap.size mA ob) (hL : LC w w.heap.size mL ol) (hnb : ob.length = nb) (hcb : nb ≤ mcA ∧ mcA ≤ 9223372036854775807) (hnl : ol.length = nl) (hcl : nl ≤ mcL ∧ mcL ≤ 9223372036854775807) (ht : Fr.okTotal ol ≤ 16384) (hq : ∀ b ∈ ol, b.length ≤ 9223372036854775807) :
    Calls Tryd.prog 18 #[.pointer (some ⟨X, 0, none⟩), .pointer (some ⟨L, 0, none⟩), .agg #[.int .i64 ox, .int .i64 oi, .slice mA nb mcA, .slice mL nl mcL, .slice mG np mcG]] w fun e w' => e = .returned (.int .i64 (Wl.doP d l ox ob ol).1) ∧ SY (Or F w.heap.size w'.heap.size) w' P L (Wl.doP d l ox ob ol).2.1 (Wl.doP d l ox ob ol).2.2 ∧ OutP F w w' := by
  have hba : Below w.heap.size w (w.alloc (.cells #[.int .i64 ox, .int .i64 oi, .slice mA nb mcA, .slice mL nl mcL, .slice mG np mcG] 40)) := (Below.refl _ _).alloc (Nat.le_refl _) _
  have HBA := Lib.hid hba
  have hu := hi.used
  have hul := Wl.areaBytes_lt hi.n512
  rcases hx with rfl | rfl
  · have HAP := Lib.hid (append_any F _ P L d l mA mcA nb ob (hH.next hba) (h.keep hba) hnH hst (by rw [hn]; exact hi.n4) hi.gen hi.a1 (by omega) ((hA.keepB hba (Nat.le_refl _)).moreB hba.size) hnb hcb.1 hcb.2)
    have HR : Hid (Wl.doP d l 1 ob ol = Wl.append d l ob) := Lib.hid (if_pos rfl)
    clear h hH hst hi hA hL hba hq ht hn
    go_enter Tryd.func18, Tryd.ntmps18
    go_wp2_with fail
    refine HAP.out.mono ?_
    rintro _ w2 ⟨rfl, h1, h2⟩
    go_wp2_with fail
    go_ret
    rw [HR.out]
    exact ⟨rfl, h1.mono (fun x hx => hx.imp id (fun h => ⟨Nat.le_trans HBA.out.size h.1, h.2⟩)), (OutP.of HBA.out).trans h2 (fun _ _ h => h) (fun _ _ h => h)⟩
  · have HAP := Lib.hid (replace_any F _ P L d l mL mcL nl ol (hH.next hba) (h.keep hba) hnH hst (by rw [hn]; exact hi.n4) hi.gen hi.a1 ((hL.keepB hba (Nat.le_refl _)).moreB hba.size) hnl hcl.1 hcl.2 ht hq)
    have HR : Hid (Wl.doP d l 2 ob ol = Wl.replace d l ol) := Lib.hid (if_neg (by decide))
    clear h hH hst hi hA hL hba hq ht hn
    go_enter Tryd.func18, Tryd.ntmps18
    go_wp2_with fail
    refine HAP.out.mono ?_
    rintro _ w2 ⟨rfl, h1, h2⟩
    go_wp2_with fail
    go_ret
    rw [HR.out]
    exact ⟨rfl, h1.mono (fun x hx => hx.imp id (fun h => ⟨Nat.le_trans HBA.out.size h.1, h.2⟩)), (OutP.of HBA.out).trans h2 (fun _ _ h => h) (fun _ _ h => h)⟩
theorem do_t {X : Nat → Prop} {w : World} {P L P' L' Y : Nat} {d d' : Dk.D} {l l' : Wl.L} (h : TZ X w P L P' L' d l d' l') (hH : Hs w) (hX : X 0) (hst : d.st = []) {c N : Nat} (hn : d.n = N) (hi : Wl.Inv c N d.kept l) (ox oi : Int) (hx : ox = 1 ∨ ox = 2)
    (mA mL mG : Option Addr) (nb mcA nl mcL np mcG : Nat) (ob : List UInt8) (ol : List (List UInt8)) (hA : BCells w w.heap.size mA ob) (hL : LC w w.heap.size mL ol) (hnb : ob.length = nb) (hcb : nb ≤ mcA ∧ mcA ≤ 9223372036854775807) (hnl : ol.length = nl) (hcl : nl ≤ mcL ∧ mcL ≤ 9223372036854775807) (ht : Fr.okTotal ol ≤ 16384) (hq : ∀ b ∈ ol, b.length ≤ 9223372036854775807) :
    Calls Tryd.prog 18 #[.pointer (some ⟨Y, 0, none⟩), .pointer (some ⟨L, 0, none⟩), .agg #[.int .i64 ox, .int .i64 oi, .slice mA nb mcA, .slice mL nl mcL, .slice mG np mcG]] w fun e w' => e = .returned (.int .i64 (Wl.doP d l ox ob ol).1) ∧ TPost X w P L P' L' (Wl.doP d l ox ob ol).2.1 (Wl.doP d l ox ob ol).2.2 d' l' w' := by
  obtain ⟨F, F', h1, h2, h3, h4, h5, h6⟩ := h
  refine (do_s (P := P) (X := Y) h1 (fun x hx => (h4 x hx).2) hH (fun hf => (h4 _ hf).1 hX) hst hn hi ox oi hx mA mL mG nb mcA nl mcL np mcG ob ol hA hL hnb hcb hnl hcl ht hq).mono ?_
  rintro e w' ⟨rfl, h7, h8⟩
  exact ⟨rfl, TZ.step h2 h3 h4 h5 h6 h7 h8⟩
end Go.Proofs.YtkmljbbnpjlehaaDoor
namespace Go.Proofs.YtkmljbbnpjlehaaDoor
set_option maxRecDepth 8000
open Go.RowKit

theorem Tryd.infoWo : (Tryd.prog.info? 40).map (fun i => (i.zero, i.size, i.bytes)) = some (some (.agg #[.int .i64 0, .int .i64 0, .slice none 0 0, .slice none 0 0, .slice none 0 0]), 5, 88) := by kernel_rfl
def woFlat (l : List Wl.O) (m : Nat → Wo) : List Value := (List.range (l.length * 5)).map fun j => (woCells (l.getD (j / 5) default) (m (j / 5))).getD (j % 5) (.bool false)
theorem woFlat_len (l : List Wl.O) (m : Nat → Wo) : (woFlat l m).length = l.length * 5 := by simp [woFlat]
theorem woCells_len (o : Wl.O) (m : Wo) : (woCells o m).length = 5 := rfl
theorem woFlat_at {l : List Wl.O} {m : Nat → Wo} {j : Nat} {u : Value} (h : (woFlat l m)[j]? = some u) : ∃ hk : j / 5 < l.length, (woCells l[j / 5] (m (j / 5)))[j % 5]? = some u := by
  have hj : j < l.length * 5 := by rw [← woFlat_len l m]; exact (List.getElem?_eq_some_iff.1 h).1
  have hk : j / 5 < l.length := by omega
  refine ⟨hk, ?_⟩
  unfold woFlat at h
  rw [List.getElem?_map, List.getElem?_range hj, Option.map_some, Option.some.injEq, List.getD_eq_getElem?_getD, List.getD_eq_getElem?_getD, List.getElem?_eq_getElem hk, Option.getD_some] at h
  rw [List.getElem?_eq_getElem (by rw [woCells_len]; omega), Option.getD_some] at h
  rw [List.getElem?_eq_getElem (by rw [woCells_len]; omega), h]
theorem woFlat_get {l : List Wl.O} {m : Nat → Wo} {k j : Nat} (hk : k < l.length) {v : Value} (hv : (woCells l[k] (m k))[j]? = some v) : (woFlat l m)[k * 5 + j]? = some v := by
  have hj : j < 5 := by rw [← woCells_len l[k] (m k)]; exact (List.getElem?_eq_some_iff.1 hv).1
  have e1 : (k * 5 + j) / 5 = k := by omega
  have e2 : (k * 5 + j) % 5 = j := by omega
  unfold woFlat
  rw [List.getElem?_map, List.getElem?_range (by omega), Option.map_some, e1, e2, List.getD_eq_getElem?_getD, List.getD_eq_getElem?_getD, List.getElem?_eq_getElem hk, Option.getD_some, hv, Option.getD_some]
theorem woCells_one (o : Wl.O) (m : Wo) : ∀ u ∈ woCells o m, u.oneCell' = true := by
  intro u hu
  unfold woCells at hu
  simp only [List.mem_cons, List.not_mem_nil, or_false] at hu
  rcases hu with rfl | rfl | rfl | rfl | rfl <;> rfl

theorem PInB.moreB {w : World} {bd bd' : Nat} {A : Option Addr} {cap : Nat} {l : List Bool} (h : PInB w bd A cap l) (hb : bd ≤ bd') : PInB w bd' A cap l := ⟨h.1, fun hn => by
  obtain ⟨b, off, e, hlt, hc⟩ := h.2 hn
  exact ⟨b, off, e, Nat.lt_of_lt_of_le hlt hb, hc⟩⟩
theorem WoIn.moreB {w : World} {bd bd' : Nat} {o : Wl.O} {m : Wo} (h : WoIn w bd o m) (hb : bd ≤ bd') : WoIn w bd' o m := ⟨h.b.moreB hb, h.l.moreB hb, h.p.moreB hb, h.cb, h.cl, h.lq, h.lp, h.i⟩
/-- append([]Op{..}, l...). -/
theorem ops_copy {W : World} {ops : Array Oper} {rest : List Oper} {op : Oper} {a : Act} {Q : Exit → Act → World → Prop} (hw : Region.wanted op (yielded ops a.tmps) = true) (s x : Operand) (base G : Nat) (A : Option Addr) (p n c : Nat) (xs : List Value) (pre l : List Wl.O)
    (ho : op.op = .call { callee := .builtin .append, args := #[s, x], argTypes := #[22, 22] }) (hs : a.eval s = .slice (some ⟨G, 0, none⟩) p p) (hx : a.eval x = .slice A n c) (hl : l.length = n) (hp : pre.length = p) (hp0 : 0 < p) (hp9 : p ≤ 1000)
    (hown : W.ownsRow base 40 5 (.slice (some ⟨G, 0, none⟩) p p) p xs) (hbase : base ≤ W.heap.size) (hpre : ∀ k (_ : k < pre.length), ∃ m : Wo, (∀ j v, (woCells pre[k] m)[j]? = some v → xs[k * 5 + j]? = some v) ∧ WoIn W base pre[k] m) (hwos : WosIn W base A l) (hn : n ≤ 1048576)
    (hK : ∀ g cap W', WosIn W' W'.heap.size (some ⟨g, 0, none⟩) (pre ++ l) → Below base W W' → base ≤ g → wpList Tryd.prog ops Q rest (a.put op.dst (.slice (some ⟨g, 0, none⟩) (p + n) cap)) W') :
    wpList Tryd.prog ops Q (op :: rest) a W := by
  obtain ⟨i0, hi, hz0, hz1, hz2⟩ := info_parts Tryd.infoWo
  obtain ⟨hxl, ho2⟩ := hown
  have hown : W.ownsRow base 40 5 (.slice (some ⟨G, 0, none⟩) p p) p xs := ⟨hxl, ho2⟩
  obtain ⟨hbG, hGlt⟩ := World.ownsRow.lt hown G rfl
  refine BigFrame.wpList_want hw fun K hK' => ?_
  have hmain : ∃ g cap W', (Builtin.append_ #[22, 22] op.type #[.slice (some ⟨G, 0, none⟩) p p, .slice A n c]).run Tryd.prog W = .ok (.slice (some ⟨g, 0, none⟩) (p + n) cap) W' ∧ WosIn W' W'.heap.size (some ⟨g, 0, none⟩) (pre ++ l) ∧ Below base W W' ∧ base ≤ g := by
    by_cases h0 : n = 0
    · subst h0
      have hl0 : l = [] := List.eq_nil_of_length_eq_zero hl
      subst hl0
      refine ⟨G, p, W, ?_, fun _ => ⟨G, 0, rfl, hGlt, fun k hk => ?_⟩, Below.refl _ _, hbG⟩
      · cases A <;> simp [Builtin.append_, run_underlying Tryd.underlying22, sizeOf, typeInfo, hi, Builtin.lenOf, Builtin.firstCells, loadCells, loadCellsFrom, storeCells]
      · have hk' : k < pre.length := by simpa using hk
        obtain ⟨m, h1, h2⟩ := hpre k hk'
        refine ⟨m, fun j v hv => ?_, ?_⟩
        · rw [List.getElem_append_left hk'] at hv
          have := hown.cells (g := G) rfl _ v (h1 j v hv)
          rwa [Addr.add_mid] at this
        · rw [List.getElem_append_left hk']
          exact h2.moreB hbase
    · obtain ⟨b, off, rfl, hlt, hc⟩ := hwos (by omega)
      obtain ⟨mm, hmm⟩ := Deep.choose_lt (α := Wo) (n := n) (p := fun k m => ∃ hk : k < l.length, (∀ j v, (woCells l[k] m)[j]? = some v → W.cell? ⟨b, off + (k * 5 + j), none⟩ = some v) ∧ WoIn W base l[k] m) (fun k hk => by
        have hk' : k < l.length := by omega
        obtain ⟨m, h1, h2⟩ := hc k hk'
        exact ⟨m, hk', h1, h2⟩)
      obtain ⟨v', W', hr, h2, h3, h4, h5⟩ := run_append_own_at (P := Tryd.prog) W base 22 op.type 40 i0 _ 5 88 Tryd.underlying22 hi hz0 hz1 hz2 rfl (by omega) _ p xs hown ⟨b, off, none⟩ n c (woFlat l mm) (by rw [woFlat_len, hl]) (fun j u hu => by
          obtain ⟨hk, h1⟩ := woFlat_at hu
          obtain ⟨_, h2, _⟩ := hmm (j / 5) (by omega)
          have h3 := h2 _ _ h1
          rw [Addr.add_mid]
          rwa [show j / 5 * 5 + j % 5 = j by omega] at h3) (fun u hu => by
          obtain ⟨j, hj, rfl⟩ := List.mem_iff_getElem.1 hu
          obtain ⟨hk, h1⟩ := woFlat_at (List.getElem?_eq_getElem hj)
          exact woCells_one _ _ _ (List.mem_of_getElem? h1)) (by unfold maxLen; omega) (by omega) hbase
      obtain ⟨g, cap, rfl, hbg, hgl⟩ := h2.form (by omega)
      have hb : Below base W W' := (Below.refl _ _).grown h3 hbase (fun k hk => by
        have hk' : G = k := by simpa [Value.ownBlock] using hk
        omega)
      refine ⟨g, cap, W', hr, fun _ => ⟨g, 0, rfl, hgl, fun k hk => ?_⟩, hb, hbg⟩
      have hz := hb.size
      by_cases hkp : k < pre.length
      · obtain ⟨m, h6, h7⟩ := hpre k hkp
        refine ⟨m, fun j v hv => ?_, ?_⟩
        · rw [List.getElem_append_left hkp] at hv
          have h8 := h6 j v hv
          have h9 := (List.getElem?_eq_some_iff.1 h8).1
          have := h2.cells (g := g) rfl (k * 5 + j) v (by rw [List.getElem?_append_left h9]; exact h8)
          rwa [Addr.add_mid] at this
        · rw [List.getElem_append_left hkp]
          exact (h7.keep hb).moreB (Nat.le_trans hbase hz)
      · have hk2 : k - pre.length < l.length := by rw [List.length_append] at hk; omega
        obtain ⟨_, h6, h7⟩ := hmm (k - pre.length) (by omega)
        refine ⟨mm (k - pre.length), fun j v hv => ?_, ?_⟩
        · rw [List.getElem_append_right (by omega)] at hv
          have h8 := woFlat_get hk2 hv
          have hj : j < 5 := by rw [← woCells_len l[k - pre.length] (mm (k - pre.length))]; exact (List.getElem?_eq_some_iff.1 hv).1
          have := h2.cells (g := g) rfl (k * 5 + j) v (by
            rw [List.getElem?_append_right (by rw [hxl]; omega), show k * 5 + j - xs.length = (k - pre.length) * 5 + j by rw [hxl]; omega]
            exact h8)
          rwa [Addr.add_mid] at this
        · rw [List.getElem_append_right (by omega)]
          exact (h7.keep hb).moreB (Nat.le_trans hbase hz)
  obtain ⟨g, cap, W', hr, h2, h3, h4⟩ := hmain
  unfold Oper.wp execOp
  simp only [ho, resolve, invoke, builtin, Sem.run_bind, Sem.run_pure, Result.andThen_ok, List.map_toArray, List.map_cons, List.map_nil, hs, hx, hr]
  exact hK' _ _ (hK g cap W' h2 h3 h4)
end Go.Proofs.YtkmljbbnpjlehaaDoor
