/-
  DERIVED. GIVEN WITH THE SEED: THE CARDS: each row of YtocfppopnoegmaaDoorRows.lean that lists a variable, with what it lists TIED to the program's text (the seventh form; the later family's looks); each row that meets fmt, with fmt's text TOLD by the authors' own Lean function (tested against real Go, not proved from fmt's source: count such statements apart). THE CARD IS WHAT COUNTS. Prove the row's statement (the work); the ties are given (YtocfppopnoegmaaDoorTie.lean); close each card by the builder's one call (the guide's Derived/Test/ToyasCard.lean, 'card_holds'). Laid BY PROGRAM, IN A SANDBOX (cutbox-door.mjs). By AI agents, Wed Nov 11 2026. No macro, syntax, notation, axiom, sorry.
-/
import Derived.Test.YtocfppopnoegmaaDoorRows
import GoSem.ClaimSeven
namespace Go.Proofs.YtocfppopnoegmaaDoor
namespace Rows

/-- THE TIED CARD OF 'matriculalaw09.FrameTells'. -/
def frameTellsCard : Claim7 := { stood := { row := frameTellsRow, standIns := [], harness := (true, "3f0a14364b120e5319bd77a1b14189d3dda8ff8be64680ba713e21a45bb38192"), looks := false }, kinds := [], alts := [], laidByText := true, laidKinds := [.data], laidTests := true, laidLooks := .later }
def FrameTellsCardSaid : Prop := Claim7.holds Tryd.pinned (.plain (OpenSpec.ofChange frameTellsSpec)) frameTellsCard

/-- THE TIED CARD OF 'matriculalaw09.FrameBack'. -/
def frameBackCard : Claim7 := { stood := { row := frameBackRow, standIns := [], harness := (true, "3f0a14364b120e5319bd77a1b14189d3dda8ff8be64680ba713e21a45bb38192"), looks := false }, kinds := [], alts := [], laidByText := true, laidKinds := [.data], laidTests := true, laidLooks := .later }
def FrameBackCardSaid : Prop := Claim7.holds Tryd.pinned (.plain (OpenSpec.ofChange frameBackSpec)) frameBackCard

/-- THE TIED CARD OF 'matriculalaw09.FrameCuts'. -/
def frameCutsCard : Claim7 := { stood := { row := frameCutsRow, standIns := [], harness := (true, "3f0a14364b120e5319bd77a1b14189d3dda8ff8be64680ba713e21a45bb38192"), looks := false }, kinds := [], alts := [], laidByText := true, laidKinds := [.data], laidTests := true, laidLooks := .later }
def FrameCutsCardSaid : Prop := Claim7.holds Tryd.pinned (.plain (OpenSpec.ofChange frameCutsSpec)) frameCutsCard

/-- THE TIED CARD OF 'matriculalaw09.FrameGoesOn'. -/
def frameGoesOnCard : Claim7 := { stood := { row := frameGoesOnRow, standIns := [], harness := (true, "3f0a14364b120e5319bd77a1b14189d3dda8ff8be64680ba713e21a45bb38192"), looks := false }, kinds := [], alts := [], laidByText := true, laidKinds := [.data], laidTests := true, laidLooks := .later }
def FrameGoesOnCardSaid : Prop := Claim7.holds Tryd.pinned (.plain (OpenSpec.ofChange frameGoesOnSpec)) frameGoesOnCard

/-- THE SECOND FORM's CARD OF 'matriculalaw09.FrameTells'. -/
def frameTellsUptoCard : Claim7 := { stood := { row := frameTellsUptoRow, standIns := [], harness := (true, "3f0a14364b120e5319bd77a1b14189d3dda8ff8be64680ba713e21a45bb38192"), looks := false }, kinds := [], alts := [], laidByText := true, laidKinds := [.data], laidTests := true, laidLooks := .later }
def FrameTellsUptoCardSaid : Prop := Claim7.holds Tryd.pinned (.plain (OpenSpec.upto frameTellsSpec)) frameTellsUptoCard

/-- THE SECOND FORM's CARD OF 'matriculalaw09.FrameBack'. -/
def frameBackUptoCard : Claim7 := { stood := { row := frameBackUptoRow, standIns := [], harness := (true, "3f0a14364b120e5319bd77a1b14189d3dda8ff8be64680ba713e21a45bb38192"), looks := false }, kinds := [], alts := [], laidByText := true, laidKinds := [.data], laidTests := true, laidLooks := .later }
def FrameBackUptoCardSaid : Prop := Claim7.holds Tryd.pinned (.plain (OpenSpec.upto frameBackSpec)) frameBackUptoCard

/-- THE SECOND FORM's CARD OF 'matriculalaw09.FrameCuts'. -/
def frameCutsUptoCard : Claim7 := { stood := { row := frameCutsUptoRow, standIns := [], harness := (true, "3f0a14364b120e5319bd77a1b14189d3dda8ff8be64680ba713e21a45bb38192"), looks := false }, kinds := [], alts := [], laidByText := true, laidKinds := [.data], laidTests := true, laidLooks := .later }
def FrameCutsUptoCardSaid : Prop := Claim7.holds Tryd.pinned (.plain (OpenSpec.upto frameCutsSpec)) frameCutsUptoCard

/-- THE SECOND FORM's CARD OF 'matriculalaw09.FrameGoesOn'. -/
def frameGoesOnUptoCard : Claim7 := { stood := { row := frameGoesOnUptoRow, standIns := [], harness := (true, "3f0a14364b120e5319bd77a1b14189d3dda8ff8be64680ba713e21a45bb38192"), looks := false }, kinds := [], alts := [], laidByText := true, laidKinds := [.data], laidTests := true, laidLooks := .later }
def FrameGoesOnUptoCardSaid : Prop := Claim7.holds Tryd.pinned (.plain (OpenSpec.upto frameGoesOnSpec)) frameGoesOnUptoCard
end Rows
end Go.Proofs.YtocfppopnoegmaaDoor
