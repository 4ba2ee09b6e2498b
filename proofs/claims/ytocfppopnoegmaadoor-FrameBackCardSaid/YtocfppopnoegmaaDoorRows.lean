/-
  NARROWER THAN 'FOR EVERY INPUT', by the rows' own cells (each row's printed sentence says how): FrameTells: laid · FrameBack: laid · FrameCuts: laid · FrameGoesOn: laid.
  DERIVED. THE GIVEN ROWS OF THIS SEAT. 4 by the template 'for every input the law returns true; each argument reads behind the call as it read before'; 0 by the template 'total and deterministic' (their statements: YtocfppopnoegmaaDoorTotals.lean).
  GIVEN WITH THE SEED: the statements are not yours to turn. If you find one false, say at which input.
  Laid BY PROGRAM, IN A SANDBOX (cutbox-rows.mjs): the forced cells as the released guide's own fill.sh prints them over the translation b1bdbd3f6c604d47… (all of the seat's roots in one cut). By AI agents, Wed Nov 11 2026. No macro, syntax, notation, axiom, sorry.
-/
import Derived.Test.YtocfppopnoegmaaDoorChecked
import GoSem.Claim
import GoSem.ClaimJoined
import GoSem.ClaimMapViews
import Derived.JoinedTies
import Derived.KernelRfl
namespace Go.Proofs.YtocfppopnoegmaaDoor
/- THE CELL 'sum', in the pinned program and in every row, IS THE sha256 OF THE DUMP (.gsa) THAT YtocfppopnoegmaaDoorProg.lean LOADS. Nothing in Lean hashes anything: it is a label: what it is worth is what the hold of that sum in a sandbox is worth. -/
noncomputable def Tryd.pinned : Pinned := { name := "ytocfppopnoegmaadoor", sum := "b1bdbd3f6c604d4774fe5016c11a10edfbf1d827a6023ee20835996e91ad1556", checked := Tryd.checked }
namespace Rows
def none {H : Type} : Left H := { results := [], args := [] }

/- WHAT THE LISTED PACKAGE-LEVEL VARIABLES READ AS WHEN THE CALL BEGINS. Each datum BY PROGRAM (the guide's laid-datum.mjs) off the statement by which the dump's own 'gosem.cut.vars' lays the variable. In a bare row this is a premise. The card (YtocfppopnoegmaaDoorCards.lean) ties it to the program's text. -/
def laid_matricula_crc_halves {H : Type} : DataW H := .agg [.lit (.int .u32 0), .lit (.int .u32 274646895), .lit (.int .u32 549293790), .lit (.int .u32 820201905), .lit (.int .u32 1098587580), .lit (.int .u32 1361435347), .lit (.int .u32 1640403810), .lit (.int .u32 1905808397), .lit (.int .u32 2197175160), .lit (.int .u32 2460548119), .lit (.int .u32 2722870694), .lit (.int .u32 2987750089), .lit (.int .u32 3280807620), .lit (.int .u32 3553878443), .lit (.int .u32 3811616794), .lit (.int .u32 4084100981)]

/-- 'matriculalaw09.FrameTells': WHATEVER THE INPUT: true; the input reads as it did. -/
def frameTellsSpec : ChangeSpec := { name := "frameTells", fn := fun _ => fun
  | [d1, d2, d3] => { results := [.lit (.bool true)], args := [d1, d2, d3] }
  | _ => none }
def frameTellsRow : OpenClaim := { program := "ytocfppopnoegmaadoor", sum := "b1bdbd3f6c604d4774fe5016c11a10edfbf1d827a6023ee20835996e91ad1556", func := "matricula/matriculalaw09.FrameTells", spec := "frameTells", unfollowed := true, recurses := true, named := ["matricula/crc.halves"], apart := false, laid := [("matricula/crc.halves", laid_matricula_crc_halves)] }
def FrameTellsSaid : Prop := frameTellsRow.holds Tryd.pinned (OpenSpec.ofChange frameTellsSpec)

/-- ITS FALSE NEIGHBOUR: 'it returns false'. Refute it at one input. -/
def frameTellsWrong : ChangeSpec := { name := "frameTells", fn := fun _ => fun
  | [d1, d2, d3] => { results := [.lit (.bool false)], args := [d1, d2, d3] }
  | _ => none }
def FrameTellsWrongFalsely : Prop := frameTellsRow.holds Tryd.pinned (OpenSpec.ofChange frameTellsWrong)

/-- 'matriculalaw09.FrameBack': WHATEVER THE INPUT: true; the input reads as it did. -/
def frameBackSpec : ChangeSpec := { name := "frameBack", fn := fun _ => fun
  | [d] => { results := [.lit (.bool true)], args := [d] }
  | _ => none }
def frameBackRow : OpenClaim := { program := "ytocfppopnoegmaadoor", sum := "b1bdbd3f6c604d4774fe5016c11a10edfbf1d827a6023ee20835996e91ad1556", func := "matricula/matriculalaw09.FrameBack", spec := "frameBack", unfollowed := true, recurses := true, named := ["matricula/crc.halves"], apart := false, laid := [("matricula/crc.halves", laid_matricula_crc_halves)] }
def FrameBackSaid : Prop := frameBackRow.holds Tryd.pinned (OpenSpec.ofChange frameBackSpec)

/-- ITS FALSE NEIGHBOUR: 'it returns false'. Refute it at one input. -/
def frameBackWrong : ChangeSpec := { name := "frameBack", fn := fun _ => fun
  | [d] => { results := [.lit (.bool false)], args := [d] }
  | _ => none }
def FrameBackWrongFalsely : Prop := frameBackRow.holds Tryd.pinned (OpenSpec.ofChange frameBackWrong)

/-- 'matriculalaw09.FrameCuts': WHATEVER THE INPUT: true; the input reads as it did. -/
def frameCutsSpec : ChangeSpec := { name := "frameCuts", fn := fun _ => fun
  | [d1, d2] => { results := [.lit (.bool true)], args := [d1, d2] }
  | _ => none }
def frameCutsRow : OpenClaim := { program := "ytocfppopnoegmaadoor", sum := "b1bdbd3f6c604d4774fe5016c11a10edfbf1d827a6023ee20835996e91ad1556", func := "matricula/matriculalaw09.FrameCuts", spec := "frameCuts", unfollowed := true, recurses := true, named := ["matricula/crc.halves"], apart := false, laid := [("matricula/crc.halves", laid_matricula_crc_halves)] }
def FrameCutsSaid : Prop := frameCutsRow.holds Tryd.pinned (OpenSpec.ofChange frameCutsSpec)

/-- ITS FALSE NEIGHBOUR: 'it returns false'. Refute it at one input. -/
def frameCutsWrong : ChangeSpec := { name := "frameCuts", fn := fun _ => fun
  | [d1, d2] => { results := [.lit (.bool false)], args := [d1, d2] }
  | _ => none }
def FrameCutsWrongFalsely : Prop := frameCutsRow.holds Tryd.pinned (OpenSpec.ofChange frameCutsWrong)

/-- 'matriculalaw09.FrameGoesOn': WHATEVER THE INPUT: true; the input reads as it did. -/
def frameGoesOnSpec : ChangeSpec := { name := "frameGoesOn", fn := fun _ => fun
  | [d1, d2] => { results := [.lit (.bool true)], args := [d1, d2] }
  | _ => none }
def frameGoesOnRow : OpenClaim := { program := "ytocfppopnoegmaadoor", sum := "b1bdbd3f6c604d4774fe5016c11a10edfbf1d827a6023ee20835996e91ad1556", func := "matricula/matriculalaw09.FrameGoesOn", spec := "frameGoesOn", unfollowed := true, recurses := true, named := ["matricula/crc.halves"], apart := false, laid := [("matricula/crc.halves", laid_matricula_crc_halves)] }
def FrameGoesOnSaid : Prop := frameGoesOnRow.holds Tryd.pinned (OpenSpec.ofChange frameGoesOnSpec)

/-- ITS FALSE NEIGHBOUR: 'it returns false'. Refute it at one input. -/
def frameGoesOnWrong : ChangeSpec := { name := "frameGoesOn", fn := fun _ => fun
  | [d1, d2] => { results := [.lit (.bool false)], args := [d1, d2] }
  | _ => none }
def FrameGoesOnWrongFalsely : Prop := frameGoesOnRow.holds Tryd.pinned (OpenSpec.ofChange frameGoesOnWrong)

/- THE SECOND FORM. 'bulk': how many values and letters a reading holds, each counted each time it is reached (what is shared counts as often as it is met; a slice's spare places count too). A statement '..UptoSaid' is the law's where the arguments, and the package variables that the reading takes, are together of bulk at most 1048576: NARROWER than '..Said'. Prove '..Said' where nothing that the law and all that it calls make is longer than what came in: it says more and counts as full. Else prove '..UptoSaid'. A law counts once. -/
mutual
def uptoBulk {H : Type} : DataW H → Nat
  | .lit (.string bytes) => bytes.length + 1
  | .lit _ => 1
  | .nil => 1
  | .ptr d => uptoBulk d + 1
  | .slice elems spare => uptoBulkAll elems + uptoBulkAll spare + 1
  | .agg parts => uptoBulkAll parts + 1
  | .iface _ d => uptoBulk d + 1
  | .map entries => uptoBulkEntries entries + 1
  | .held _ => 1
def uptoBulkAll {H : Type} : List (DataW H) → Nat
  | [] => 0
  | d :: r => uptoBulk d + uptoBulkAll r
def uptoBulkEntries {H : Type} : List (Lit × DataW H) → Nat
  | [] => 0
  | x :: r => uptoBulkEntry x + uptoBulkEntries r
def uptoBulkEntry {H : Type} : Lit × DataW H → Nat
  | (.string bytes, d) => bytes.length + uptoBulk d + 1
  | (_, d) => uptoBulk d + 1
 end
def uptoSmall : (H : Type) → List (DataW H) → Bool := fun _ ds => decide (uptoBulkAll ds ≤ 1048576)
def OpenSpec.upto (s : _root_.Go.ChangeSpec) : _root_.Go.OpenSpec := { _root_.Go.OpenSpec.ofChange s with cond := some uptoSmall }

/-- 'matriculalaw09.FrameTells', WHERE WHAT IT READS IS OF BULK AT MOST 1048576: true; the input reads as it did. -/
def frameTellsUptoRow : OpenClaim := { program := "ytocfppopnoegmaadoor", sum := "b1bdbd3f6c604d4774fe5016c11a10edfbf1d827a6023ee20835996e91ad1556", func := "matricula/matriculalaw09.FrameTells", spec := "frameTells", unfollowed := true, recurses := true, named := ["matricula/crc.halves"], apart := false, laid := [("matricula/crc.halves", laid_matricula_crc_halves)], narrowed := true }
def FrameTellsUptoSaid : Prop := frameTellsUptoRow.holds Tryd.pinned (OpenSpec.upto frameTellsSpec)

/-- 'matriculalaw09.FrameBack', WHERE WHAT IT READS IS OF BULK AT MOST 1048576: true; the input reads as it did. -/
def frameBackUptoRow : OpenClaim := { program := "ytocfppopnoegmaadoor", sum := "b1bdbd3f6c604d4774fe5016c11a10edfbf1d827a6023ee20835996e91ad1556", func := "matricula/matriculalaw09.FrameBack", spec := "frameBack", unfollowed := true, recurses := true, named := ["matricula/crc.halves"], apart := false, laid := [("matricula/crc.halves", laid_matricula_crc_halves)], narrowed := true }
def FrameBackUptoSaid : Prop := frameBackUptoRow.holds Tryd.pinned (OpenSpec.upto frameBackSpec)

/-- 'matriculalaw09.FrameCuts', WHERE WHAT IT READS IS OF BULK AT MOST 1048576: true; the input reads as it did. -/
def frameCutsUptoRow : OpenClaim := { program := "ytocfppopnoegmaadoor", sum := "b1bdbd3f6c604d4774fe5016c11a10edfbf1d827a6023ee20835996e91ad1556", func := "matricula/matriculalaw09.FrameCuts", spec := "frameCuts", unfollowed := true, recurses := true, named := ["matricula/crc.halves"], apart := false, laid := [("matricula/crc.halves", laid_matricula_crc_halves)], narrowed := true }
def FrameCutsUptoSaid : Prop := frameCutsUptoRow.holds Tryd.pinned (OpenSpec.upto frameCutsSpec)

/-- 'matriculalaw09.FrameGoesOn', WHERE WHAT IT READS IS OF BULK AT MOST 1048576: true; the input reads as it did. -/
def frameGoesOnUptoRow : OpenClaim := { program := "ytocfppopnoegmaadoor", sum := "b1bdbd3f6c604d4774fe5016c11a10edfbf1d827a6023ee20835996e91ad1556", func := "matricula/matriculalaw09.FrameGoesOn", spec := "frameGoesOn", unfollowed := true, recurses := true, named := ["matricula/crc.halves"], apart := false, laid := [("matricula/crc.halves", laid_matricula_crc_halves)], narrowed := true }
def FrameGoesOnUptoSaid : Prop := frameGoesOnUptoRow.holds Tryd.pinned (OpenSpec.upto frameGoesOnSpec)

end Rows
end Go.Proofs.YtocfppopnoegmaaDoor
