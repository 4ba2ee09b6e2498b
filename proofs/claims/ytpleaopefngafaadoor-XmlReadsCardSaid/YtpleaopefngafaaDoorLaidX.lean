/- From what the statements of stage 6 list of package-level variables, and from the shape of their first world, to what the calls read of them; a world that meets it; no condition. -/
import Derived.Test.YtpleaopefngafaaDoorXmAk
import Derived.Lay
import Derived.ProofKit
import Derived.LaidMore
import Derived.OpenShut
import Derived.Stop.Joined
import Derived.Stop.LaidErr
import Derived.Lib.LaidTab
import Derived.HandedShaped
import Derived.ChangeSame
import Derived.ChangeArms
namespace Go.Proofs.YtpleaopefngafaaDoor
set_option maxRecDepth 8000
open Go.ChangeShapes Go.WideShapes Go.ChangeAt Go.WideMaps Go.WideElems Go.RowKit

theorem Tryd.own : ownKnob Tryd.prog.godebug = none := by kernel_rfl
theorem Tryd.laidOut : laidOutB Tryd.prog = true := by kernel_rfl
theorem Tryd.gEsc : Tryd.prog.globalNamed "matricula/xml.escapes" = some 0 := by kernel_rfl
theorem Tryd.tEsc : (Tryd.prog.globals[0]?).map (·.type) = some 72 := by kernel_rfl
theorem Tryd.cellsStr : Tryd.prog.cellsOf 9 = 1 := by kernel_rfl
theorem Tryd.cellsEsc1 : Tryd.prog.cellsOf 71 = 2 := by kernel_rfl
theorem Tryd.cellsEsc : Tryd.prog.cellsOf 72 = 10 := by kernel_rfl

abbrev laid3 : List (String × DataW Unit) := [("unicode/utf8.acceptRanges", Rows.laid_unicode_utf8_acceptRanges), ("matricula/xml.escapes", Rows.laid_matricula_xml_escapes), ("unicode/utf8.first", Rows.laid_unicode_utf8_first)]

theorem S_of {a : ByteArray} {l : List UInt8} (h : a.data.toList = l) : a = S l := by
  apply ByteArray.ext
  apply Array.ext'
  rw [h]
  simp [S]
theorem pair_of_trod {H : Type} {enc : TypeId × Value → H} {w : World} {base : Nat} {sp : Nat → Bool} {held : Bool} {fuel : Nat} {cs : List Value} {x : DataW H × List MemPlace}
    (h : DataW.trod enc Tryd.prog w base sp held fuel 71 cs = some x) : ∃ a b : ByteArray, cs = [.string a, .string b] ∧ x.1 = .agg [.lit (.string a.data.toList), .lit (.string b.data.toList)] := by
  obtain ⟨y0, y1, n, rfl, hl, h0, h1⟩ := trod_struct2 Tryd.underlying71 h
  rw [Tryd.cellsEsc1] at hl
  match cs, hl with
  | [c0, c1], _ =>
    simp only [Tryd.cellsStr] at h0 h1
    obtain ⟨a, ha, rfl, _⟩ := DataW.trod_string Tryd.underlying9 h0
    obtain ⟨b, hb, rfl, _⟩ := DataW.trod_string Tryd.underlying9 h1
    simp at ha hb
    subst ha hb
    exact ⟨a, b, rfl, rfl⟩
theorem esc_of_laid {W : World} {rest : List (String × DataW Unit)} (h : laidMet Tryd.prog (("matricula/xml.escapes", Rows.laid_matricula_xml_escapes) :: rest) W) : W.rangeAt 0 0 escCells := by
  obtain ⟨ps, ⟨g, t, cs, fuel, p, q, hg, ht, hvar, hd, _, _⟩, _⟩ := h
  obtain rfl := Option.some.inj (Tryd.gEsc.symm.trans hg)
  obtain rfl := Option.some.inj (Tryd.tEsc.symm.trans ht)
  have key : cs.toList = escCells := by
    obtain ⟨l⟩ := cs
    cases fuel with
    | zero => simp [DataW.trod] at hd
    | succ fuel =>
      simp only [DataW.trod, Tryd.underlying72, Tryd.cellsEsc, Tryd.cellsEsc1] at hd
      split at hd
      · rename_i hl
        obtain ⟨c0, c1, c2, c3, c4, c5, c6, c7, c8, c9, rfl⟩ : ∃ c0 c1 c2 c3 c4 c5 c6 c7 c8 c9, l = [c0, c1, c2, c3, c4, c5, c6, c7, c8, c9] := by
          match l, hl with
          | [a, b, c, d, e, f, g, h, i, j], _ => exact ⟨a, b, c, d, e, f, g, h, i, j, rfl⟩
        have e : List.range 5 = [0, 1, 2, 3, 4] := rfl
        rw [e] at hd
        simp only [Option.map_eq_some_iff, List.mapM_cons, List.mapM_nil, Option.bind_eq_bind, Option.bind_eq_some_iff, Option.pure_def, Option.some.injEq] at hd
        obtain ⟨xs, ⟨y0, h0, _, ⟨y1, h1, _, ⟨y2, h2, _, ⟨y3, h3, _, ⟨y4, h4, _, rfl, rfl⟩, rfl⟩, rfl⟩, rfl⟩, rfl⟩, hx⟩ := hd
        obtain ⟨a0, b0, e0, f0⟩ := pair_of_trod h0
        obtain ⟨a1, b1, e1, f1⟩ := pair_of_trod h1
        obtain ⟨a2, b2, e2, f2⟩ := pair_of_trod h2
        obtain ⟨a3, b3, e3, f3⟩ := pair_of_trod h3
        obtain ⟨a4, b4, e4, f4⟩ := pair_of_trod h4
        simp at e0 e1 e2 e3 e4
        obtain ⟨rfl, rfl⟩ := e0
        obtain ⟨rfl, rfl⟩ := e1
        obtain ⟨rfl, rfl⟩ := e2
        obtain ⟨rfl, rfl⟩ := e3
        obtain ⟨rfl, rfl⟩ := e4
        have hx1 := congrArg Prod.fst hx
        simp [Rows.laid_matricula_xml_escapes, f0, f1, f2, f3, f4] at hx1
        obtain ⟨⟨p0, q0⟩, ⟨p1, q1⟩, ⟨p2, q2⟩, ⟨p3, q3⟩, ⟨p4, q4⟩⟩ := hx1
        rw [S_of p0, S_of q0, S_of p1, S_of q1, S_of p2, S_of q2, S_of p3, S_of q3, S_of p4, S_of q4]
        rfl
      · cases hd
  intro j v hv
  rw [Nat.zero_add, World.var?_cell Tryd.gEsc hvar j, ← hv, ← key]
  simp

theorem env_of_laid3 {W : World} (h : laidMetH Tryd.prog laid3 W) (hsh : W.ShapedOpen Tryd.prog) : EnvX W := by
  rw [MakeChecks.laidMetH_plain _ _ _ (by kernel_rfl)] at h
  have he := esc_of_laid h.tail
  have hm : ∃ m, W.cell? ⟨1, 0, none⟩ = some (.int .i64 m) := Tryd.laysM219.s1_3 W hsh
  refine ⟨hm, he, ?_, ?_⟩
  · obtain ⟨m, hm⟩ := hm
    exact World.block_lt_of_cell? W _ hm
  · have h0 := he 0 (.string (S [38])) rfl
    exact World.block_lt_of_cell? W _ h0

set_option maxRecDepth 100000 in
theorem door_met3 (os : Os) (args : Array Value) : laidMetH Tryd.prog laid3 ((World.laidAll Tryd.prog os laid3).forCall (fun _ _ => 0) ⟨#[], args, []⟩).memory := by
  rw [MakeChecks.laidMetH_plain _ _ _ (by kernel_rfl)]
  exact laidMet_laidAll _ (by kernel_rfl) (by kernel_rfl)
set_option maxRecDepth 100000 in
theorem door_shaped3 (os : Os) : (World.laidAll Tryd.prog os laid3).Shaped Tryd.prog := World.shaped_of_ZipB (by kernel_rfl) (by kernel_rfl)

/-- A claim's wrap that keeps both what the row lists and the shape of its first world. -/
theorem handed_and_shaped {H : Type} {enc : TypeId × Value → H} {a : Assume} {C : Checked} {os : Os} {f : FuncId} {fn : Func} {s : ChangeSpec} {conds : List PathCond} {apart fresh handsOn again : Bool} {X : World → Array Value → Prop}
    (hX : ∀ (w w' : World) (args : Array Value), w.heap = w'.heap → X w args → X w' args)
    (own : ownKnob C.prog.godebug = none) (started : os.Started) (noInit : C.prog.inits.idxOf? f = none) (hfn : C.prog.funcs[f]? = some fn)
    (witness : ∃ (w : World) (tape : Tape) (i : Input), w.os = os ∧ (w.forCall tape i).Shaped C.prog ∧ i.vars = [] ∧ Input.okWide C.prog (w.forCall tape i) .any w.heap.size f i ∧
      ((s.pre enc C.prog fn conds apart (w.forCall tape i).memory i.args ∧ X (w.forCall tape i).memory i.args) ∧ sizedMet enc C.prog fn (OpenSpec.ofChange s) apart (w.forCall tape i).memory i.args) ∧ a.holds C.prog (lone (Frame.enter C.prog f i.args .normal) [] (w.forCall tape i)))
    (contract : ∀ (W : World) (base : Nat) (args : Array Value) (ds gs : List (DataW H)) (before : List MemPlace),
      (∀ (j : Nat) t v, fn.params[j]? = some t → args[j]? = some v → Value.okWide C.prog W .any base t v) →
      DataW.Whole enc C.prog fn.params.toList s.vars apart W args.toList ds gs before → X W args → W.ShapedOpen C.prog →
      Calls C.prog f args W fun e W' => ∃ v, e = .returned v ∧ s.post enc C.prog fn apart fresh handsOn again W args v W') :
    ReturnsInHanded a C os f .any (fun w args => (s.pre enc C.prog fn conds apart w args ∧ X w args) ∧ sizedMet enc C.prog fn (OpenSpec.ofChange s) apart w args) (s.post enc C.prog fn apart fresh handsOn again) := by
  refine returnsInHanded_of_calls own started noInit witness ?_
  intro w tape i _ hsh _ hok hpre _
  obtain ⟨_, _, _, fn', hfn', _, _, _, _, hval⟩ := hok
  obtain rfl : fn' = fn := Option.some.inj (hfn'.symm.trans hfn)
  obtain ⟨⟨⟨ds, gs, before, hw, _⟩, hx⟩, _⟩ := hpre
  refine (contract (w.forCall tape i) w.heap.size i.args ds gs before hval (DataW.Whole.of_heap (w' := w.forCall tape i) (by rfl) hw) (hX _ _ _ (by rfl) hx) hsh).mono fun e W' ⟨v, he, hp⟩ => ?_
  subst he
  exact ChangeSpec.post_blind hp
end Go.Proofs.YtpleaopefngafaaDoor
