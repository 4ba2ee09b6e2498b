/- From what the statements of stage 12 list of package-level variables to what the calls read of them; a world that meets it; no condition. -/
import Derived.Test.YtfeaonbeklmfgaaGreatDoorTkD
import Derived.Lay
import Derived.ProofKit
import Derived.LaidMore
import Derived.OpenShut
import Derived.Stop.Joined
import Derived.Stop.LaidErr
import Derived.Lib.LaidTab
import Derived.HandedShaped
import Derived.LaidLaws
import Derived.ChangeSame
import Derived.ChangeArms
namespace Go.Proofs.YtfeaonbeklmfgaaGreatDoor
set_option maxRecDepth 8000
open Go.ChangeShapes Go.WideShapes Go.ChangeAt Go.WideMaps Go.WideElems Go.RowKit

theorem Tryz.own : ownKnob Tryz.prog.godebug = none := by kernel_rfl
theorem Tryz.laidOut : laidOutB Tryz.prog = true := by kernel_rfl
theorem Tryz.gPre : Tryz.prog.globalNamed "matricula/ticket.prefixes" = some 1 := by kernel_rfl
theorem Tryz.tPre : (Tryz.prog.globals[1]?).map (·.type) = some 137 := by kernel_rfl
theorem Tryz.cellsStr : Tryz.prog.cellsOf 9 = 1 := by kernel_rfl
theorem Tryz.cellsPre : Tryz.prog.cellsOf 137 = 7 := by kernel_rfl
theorem Tryz.gTz : Tryz.prog.globalNamed "math/bits.deBruijn64tab" = some 6 := by kernel_rfl
theorem Tryz.tTz : (Tryz.prog.globals[6]?).map (·.type) = some 182 := by kernel_rfl
theorem Tryz.cellsU8 : Tryz.prog.cellsOf 5 = 1 := by kernel_rfl
theorem Tryz.cellsTz : Tryz.prog.cellsOf 182 = 64 := by kernel_rfl
theorem Tryz.gRange : Tryz.prog.globalNamed "strconv.ErrRange" = some 3 := by kernel_rfl
theorem Tryz.tRange : (Tryz.prog.globals[3]?).map (·.type) = some 131 := by kernel_rfl
theorem Tryz.gSyntax : Tryz.prog.globalNamed "strconv.ErrSyntax" = some 2 := by kernel_rfl
theorem Tryz.tSyntax : (Tryz.prog.globals[2]?).map (·.type) = some 131 := by kernel_rfl
theorem Tryz.cellsErrS : Tryz.prog.cellsOf 172 = 1 := by kernel_rfl
theorem errStar : "*" ++ "errors.errorString" = "*errors.errorString" := by decide
theorem errRow (u : TypeId) (h : Tryz.prog.typeName? 3 u = some "*errors.errorString") : u = 170 :=
  typeName_ptr_named (nm := "errors.errorString") (by rw [errStar]; kernel_rfl) (by kernel_rfl) (by decide) u (by rw [errStar]; exact h)

abbrev laid6 : List (String × DataW Unit) := [("math/bits.deBruijn32tab", Rows.laid_math_bits_deBruijn32tab), ("math/bits.deBruijn64tab", Rows.laid_math_bits_deBruijn64tab), ("internal/strconv.uint64pow10", Rows.laid_internal_strconv_uint64pow10), ("strconv.ErrRange", Rows.laid_strconv_ErrRange), ("strconv.ErrSyntax", Rows.laid_strconv_ErrSyntax), ("matricula/ticket.prefixes", Rows.laid_matricula_ticket_prefixes)]
def tzs : List Int := [0, 1, 56, 2, 57, 49, 28, 3, 61, 58, 42, 50, 38, 29, 17, 4, 62, 47, 59, 36, 45, 43, 51, 22, 53, 39, 33, 30, 24, 18, 12, 5, 63, 55, 48, 27, 60, 41, 37, 16, 46, 35, 44, 21, 52, 32, 23, 11, 54, 26, 40, 15, 34, 20, 31, 10, 25, 14, 19, 9, 13, 8, 7, 6]
theorem laid_tz : (Rows.laid_math_bits_deBruijn64tab : DataW Unit) = Lib.tabData .u8 tzs := by kernel_rfl

theorem S_of {a : ByteArray} {l : List UInt8} (h : a.data.toList = l) : a = S l := by
  apply ByteArray.ext
  apply Array.ext'
  rw [h]
  simp [S]
theorem str_of_trod {H : Type} {enc : TypeId × Value → H} {w : World} {base : Nat} {sp : Nat → Bool} {held : Bool} {fuel : Nat} {c : Value} {x : DataW H × List MemPlace}
    (h : DataW.trod enc Tryz.prog w base sp held fuel 9 [c] = some x) : ∃ a : ByteArray, c = .string a ∧ x.1 = .lit (.string a.data.toList) := by
  obtain ⟨a, ha, rfl, _⟩ := DataW.trod_string Tryz.underlying9 h
  simp at ha
  subst ha
  exact ⟨a, rfl, rfl⟩
theorem pre_of_laid {W : World} {rest : List (String × DataW Unit)} (h : laidMet Tryz.prog (("matricula/ticket.prefixes", Rows.laid_matricula_ticket_prefixes) :: rest) W) : W.rangeAt 1 0 preCells := by
  obtain ⟨ps, ⟨g, t, cs, fuel, p, q, hg, ht, hvar, hd, _, _⟩, _⟩ := h
  obtain rfl := Option.some.inj (Tryz.gPre.symm.trans hg)
  obtain rfl := Option.some.inj (Tryz.tPre.symm.trans ht)
  have key : cs.toList = preCells := by
    obtain ⟨l⟩ := cs
    cases fuel with
    | zero => simp [DataW.trod] at hd
    | succ fuel =>
      simp only [DataW.trod, Tryz.underlying137, Tryz.cellsPre, Tryz.cellsStr] at hd
      split at hd
      · rename_i hl
        obtain ⟨c0, c1, c2, c3, c4, c5, c6, rfl⟩ : ∃ c0 c1 c2 c3 c4 c5 c6, l = [c0, c1, c2, c3, c4, c5, c6] := by
          match l, hl with
          | [a, b, c, d, e, f, g], _ => exact ⟨a, b, c, d, e, f, g, rfl⟩
        have e : List.range 7 = [0, 1, 2, 3, 4, 5, 6] := rfl
        rw [e] at hd
        simp only [Option.map_eq_some_iff, List.mapM_cons, List.mapM_nil, Option.bind_eq_bind, Option.bind_eq_some_iff, Option.pure_def, Option.some.injEq] at hd
        obtain ⟨xs, ⟨y0, h0, _, ⟨y1, h1, _, ⟨y2, h2, _, ⟨y3, h3, _, ⟨y4, h4, _, ⟨y5, h5, _, ⟨y6, h6, _, rfl, rfl⟩, rfl⟩, rfl⟩, rfl⟩, rfl⟩, rfl⟩, rfl⟩, hx⟩ := hd
        obtain ⟨a0, rfl, f0⟩ := str_of_trod h0
        obtain ⟨a1, rfl, f1⟩ := str_of_trod h1
        obtain ⟨a2, rfl, f2⟩ := str_of_trod h2
        obtain ⟨a3, rfl, f3⟩ := str_of_trod h3
        obtain ⟨a4, rfl, f4⟩ := str_of_trod h4
        obtain ⟨a5, rfl, f5⟩ := str_of_trod h5
        obtain ⟨a6, rfl, f6⟩ := str_of_trod h6
        have hx1 := congrArg Prod.fst hx
        simp [Rows.laid_matricula_ticket_prefixes, f0, f1, f2, f3, f4, f5, f6] at hx1
        obtain ⟨p0, p1, p2, p3, p4, p5, p6⟩ := hx1
        have p0' : a0.data.toList = [] := by rw [p0]
        rw [S_of p0', S_of p1, S_of p2, S_of p3, S_of p4, S_of p5, S_of p6]
        rfl
      · cases hd
  intro j v hv
  rw [Nat.zero_add, World.var?_cell Tryz.gPre hvar j, ← hv, ← key]
  simp

theorem env_of_laid6 {W : World} (h : laidMetH Tryz.prog laid6 W) : EnvT W := by
  rw [MakeChecks.laidMetH_plain _ _ _ (by kernel_rfl)] at h
  have hp := pre_of_laid h.tail.tail.tail.tail.tail
  have h2 : laidMet Tryz.prog [("math/bits.deBruijn64tab", Lib.tabData .u8 tzs), ("internal/strconv.uint64pow10", Rows.laid_internal_strconv_uint64pow10), ("strconv.ErrRange", Rows.laid_strconv_ErrRange), ("strconv.ErrSyntax", Rows.laid_strconv_ErrSyntax), ("matricula/ticket.prefixes", Rows.laid_matricula_ticket_prefixes)] W := by
    rw [← laid_tz]
    exact h.tail
  have hz := (Lib.tabIs_of_head Tryz.gTz Tryz.tTz Tryz.underlying182 Tryz.underlying5 Tryz.cellsU8 Tryz.cellsTz h2).cell Tryz.gTz 15 (by decide)
  obtain ⟨a1, s1, hv1, _, _, _⟩ := laid_sentinel h.tail.tail.tail Tryz.gRange Tryz.tRange Tryz.underlying131 (fun u hu => errRow u hu) Tryz.underlying170 Tryz.underlying172 rfl rfl Tryz.underlying9 Tryz.cellsErrS Tryz.cellsStr
  obtain ⟨a2, s2, hv2, _, _, _⟩ := laid_sentinel h.tail.tail.tail.tail Tryz.gSyntax Tryz.tSyntax Tryz.underlying131 (fun u hu => errRow u hu) Tryz.underlying170 Tryz.underlying172 rfl rfl Tryz.underlying9 Tryz.cellsErrS Tryz.cellsStr
  have c1 : W.cell? ⟨3, 0, none⟩ = some (.iface 170 (.pointer (some a1))) := by simpa using World.var?_cell Tryz.gRange hv1 0
  have c2 : W.cell? ⟨2, 0, none⟩ = some (.iface 170 (.pointer (some a2))) := by simpa using World.var?_cell Tryz.gSyntax hv2 0
  refine ⟨hz, ⟨⟨_, c2, .inr ⟨_, _, rfl⟩⟩, ⟨_, c1, .inr ⟨_, _, rfl⟩⟩, World.block_lt_of_cell? W _ c2, World.block_lt_of_cell? W _ c1⟩, hp, World.block_lt_of_cell? W _ hz, ?_⟩
  have h0 := hp 0 (.string (S (Tk.pre 0))) rfl
  exact World.block_lt_of_cell? W _ h0

set_option maxRecDepth 100000 in
theorem door_met6 (os : Os) (args : Array Value) : laidMetH Tryz.prog laid6 ((World.laidAll Tryz.prog os laid6).forCall (fun _ _ => 0) ⟨#[], args, []⟩).memory := by
  rw [MakeChecks.laidMetH_plain _ _ _ (by kernel_rfl)]
  exact laidMet_laidAll _ (by kernel_rfl) (by kernel_rfl)
set_option maxRecDepth 100000 in
theorem door_shaped6 (os : Os) : (World.laidAll Tryz.prog os laid6).Shaped Tryz.prog := World.shaped_of_ZipB (by kernel_rfl) (by kernel_rfl)

/-- A claim's wrap that keeps both what the row lists and the shape of its first world. -/
theorem handed_and_shaped {H : Type} {enc : TypeId × Value → H} {a : Assume} {C : Checked} {os : Os} {f : FuncId} {fn : Func} {s : ChangeSpec} {conds : List PathCond} {apart fresh handsOn again : Bool} {X : World → Array Value → Prop}
    (hX : ∀ (w w' : World) (args : Array Value), w.heap = w'.heap → X w args → X w' args)
    (own : ownKnob C.prog.godebug = none) (started : os.Started) (noInit : C.prog.inits.idxOf? f = none) (hfn : C.prog.funcs[f]? = some fn)
    (witness : ∃ (w : World) (tape : Tape) (i : Input), w.os = os ∧ (w.forCall tape i).Shaped C.prog ∧ i.vars = [] ∧ Input.okWide C.prog (w.forCall tape i) .any w.heap.size f i ∧
      ((s.pre enc C.prog fn conds apart (w.forCall tape i).memory i.args ∧ X (w.forCall tape i).memory i.args) ∧ sizedMet enc C.prog fn (OpenSpec.ofChange s) apart (w.forCall tape i).memory i.args) ∧ a.holds C.prog (lone (Frame.enter C.prog f i.args .normal) [] (w.forCall tape i)))
    (contract : ∀ (W : World) (base : Nat) (args : Array Value) (ds gs : List (DataW H)) (before : List MemPlace),
      (∀ (j : Nat) t v, fn.params[j]? = some t → args[j]? = some v → Value.okWide C.prog W .any base t v) →
      DataW.Whole enc C.prog fn.params.toList s.vars apart W args.toList ds gs before → X W args → W.ShapedOpen C.prog →
      Calls C.prog f args W fun e W' => ∃ v, e = .returned v ∧ s.post enc C.prog fn apart fresh handsOn again W args v W') :
    ReturnsInHanded a C os f .any (fun w args => (s.pre enc C.prog fn conds apart w args ∧ X w args) ∧ sizedMet enc C.prog fn (OpenSpec.ofChange s) apart w args) (s.post enc C.prog fn apart fresh handsOn again) := by
  refine returnsInHanded_of_calls own started noInit witness ?_
  intro w tape i _ hsh _ hok hpre _
  obtain ⟨_, _, _, fn', hfn', _, _, _, _, hval⟩ := hok
  obtain rfl : fn' = fn := Option.some.inj (hfn'.symm.trans hfn)
  obtain ⟨⟨⟨ds, gs, before, hw, _⟩, hx⟩, _⟩ := hpre
  refine (contract (w.forCall tape i) w.heap.size i.args ds gs before hval (DataW.Whole.of_heap (w' := w.forCall tape i) (by rfl) hw) (hX _ _ _ (by rfl) hx) hsh).mono fun e W' ⟨v, he, hp⟩ => ?_
  subst he
  exact ChangeSpec.post_blind hp
end Go.Proofs.YtfeaonbeklmfgaaGreatDoor
