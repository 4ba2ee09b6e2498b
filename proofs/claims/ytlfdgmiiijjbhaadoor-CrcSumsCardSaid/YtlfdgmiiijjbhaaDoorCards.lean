/-
  DERIVED. GIVEN WITH THE SEED: THE CARDS: each row of YtlfdgmiiijjbhaaDoorRows.lean that lists a variable, with what it lists TIED to the program's text (the seventh form; the later family's looks); each row that meets fmt, with fmt's text TOLD by the authors' own Lean function (tested against real Go, not proved from fmt's source: count such statements apart). THE CARD IS WHAT COUNTS. Prove the row's statement (the work); the ties are given (YtlfdgmiiijjbhaaDoorTie.lean); close each card by the builder's one call (the guide's Derived/Test/ToyasCard.lean, 'card_holds'). Laid BY PROGRAM, IN A SANDBOX (cutbox-door.mjs). By AI agents, Wed Nov 11 2026. No macro, syntax, notation, axiom, sorry.
-/
import Derived.Test.YtlfdgmiiijjbhaaDoorRows
import GoSem.ClaimSeven
namespace Go.Proofs.YtlfdgmiiijjbhaaDoor
namespace Rows

/-- THE TIED CARD OF 'matriculalaw07.CrcTells'. -/
def crcTellsCard : Claim7 := { stood := { row := crcTellsRow, standIns := [], harness := (true, "5ee4355b4e956e30364f77cceb3bbc8bc70297a9ffaf8e85b60c6edfbf7c7c4c"), looks := false }, kinds := [], alts := [], laidByText := true, laidKinds := [.data], laidTests := true, laidLooks := .later }
def CrcTellsCardSaid : Prop := Claim7.holds Tryd.pinned (.plain (OpenSpec.ofChange crcTellsSpec)) crcTellsCard

/-- THE TIED CARD OF 'matriculalaw07.CrcParts'. -/
def crcPartsCard : Claim7 := { stood := { row := crcPartsRow, standIns := [], harness := (true, "5ee4355b4e956e30364f77cceb3bbc8bc70297a9ffaf8e85b60c6edfbf7c7c4c"), looks := false }, kinds := [], alts := [], laidByText := true, laidKinds := [.data], laidTests := true, laidLooks := .later }
def CrcPartsCardSaid : Prop := Claim7.holds Tryd.pinned (.plain (OpenSpec.ofChange crcPartsSpec)) crcPartsCard

/-- THE TIED CARD OF 'matriculalaw07.CrcJoins'. -/
def crcJoinsCard : Claim7 := { stood := { row := crcJoinsRow, standIns := [], harness := (true, "5ee4355b4e956e30364f77cceb3bbc8bc70297a9ffaf8e85b60c6edfbf7c7c4c"), looks := false }, kinds := [], alts := [], laidByText := true, laidKinds := [.data], laidTests := true, laidLooks := .later }
def CrcJoinsCardSaid : Prop := Claim7.holds Tryd.pinned (.plain (OpenSpec.ofChange crcJoinsSpec)) crcJoinsCard

/-- THE TIED CARD OF 'matriculalaw07.CrcBursts'. -/
def crcBurstsCard : Claim7 := { stood := { row := crcBurstsRow, standIns := [], harness := (true, "5ee4355b4e956e30364f77cceb3bbc8bc70297a9ffaf8e85b60c6edfbf7c7c4c"), looks := false }, kinds := [], alts := [], laidByText := true, laidKinds := [.data], laidTests := true, laidLooks := .later }
def CrcBurstsCardSaid : Prop := Claim7.holds Tryd.pinned (.plain (OpenSpec.ofChange crcBurstsSpec)) crcBurstsCard

/-- THE TIED CARD OF 'matriculalaw07.CrcLast'. -/
def crcLastCard : Claim7 := { stood := { row := crcLastRow, standIns := [], harness := (true, "5ee4355b4e956e30364f77cceb3bbc8bc70297a9ffaf8e85b60c6edfbf7c7c4c"), looks := false }, kinds := [], alts := [], laidByText := true, laidKinds := [.data], laidTests := true, laidLooks := .later }
def CrcLastCardSaid : Prop := Claim7.holds Tryd.pinned (.plain (OpenSpec.ofChange crcLastSpec)) crcLastCard

/-- THE TIED CARD OF 'matriculalaw07.CrcSums'. -/
def crcSumsCard : Claim7 := { stood := { row := crcSumsRow, standIns := [], harness := (true, "5ee4355b4e956e30364f77cceb3bbc8bc70297a9ffaf8e85b60c6edfbf7c7c4c"), looks := false }, kinds := [], alts := [], laidByText := true, laidKinds := [.data], laidTests := true, laidLooks := .later }
def CrcSumsCardSaid : Prop := Claim7.holds Tryd.pinned (.plain (OpenSpec.ofChange crcSumsSpec)) crcSumsCard

/-- THE SECOND FORM's CARD OF 'matriculalaw07.CrcTells'. -/
def crcTellsUptoCard : Claim7 := { stood := { row := crcTellsUptoRow, standIns := [], harness := (true, "5ee4355b4e956e30364f77cceb3bbc8bc70297a9ffaf8e85b60c6edfbf7c7c4c"), looks := false }, kinds := [], alts := [], laidByText := true, laidKinds := [.data], laidTests := true, laidLooks := .later }
def CrcTellsUptoCardSaid : Prop := Claim7.holds Tryd.pinned (.plain (OpenSpec.upto crcTellsSpec)) crcTellsUptoCard

/-- THE SECOND FORM's CARD OF 'matriculalaw07.CrcParts'. -/
def crcPartsUptoCard : Claim7 := { stood := { row := crcPartsUptoRow, standIns := [], harness := (true, "5ee4355b4e956e30364f77cceb3bbc8bc70297a9ffaf8e85b60c6edfbf7c7c4c"), looks := false }, kinds := [], alts := [], laidByText := true, laidKinds := [.data], laidTests := true, laidLooks := .later }
def CrcPartsUptoCardSaid : Prop := Claim7.holds Tryd.pinned (.plain (OpenSpec.upto crcPartsSpec)) crcPartsUptoCard

/-- THE SECOND FORM's CARD OF 'matriculalaw07.CrcJoins'. -/
def crcJoinsUptoCard : Claim7 := { stood := { row := crcJoinsUptoRow, standIns := [], harness := (true, "5ee4355b4e956e30364f77cceb3bbc8bc70297a9ffaf8e85b60c6edfbf7c7c4c"), looks := false }, kinds := [], alts := [], laidByText := true, laidKinds := [.data], laidTests := true, laidLooks := .later }
def CrcJoinsUptoCardSaid : Prop := Claim7.holds Tryd.pinned (.plain (OpenSpec.upto crcJoinsSpec)) crcJoinsUptoCard

/-- THE SECOND FORM's CARD OF 'matriculalaw07.CrcBursts'. -/
def crcBurstsUptoCard : Claim7 := { stood := { row := crcBurstsUptoRow, standIns := [], harness := (true, "5ee4355b4e956e30364f77cceb3bbc8bc70297a9ffaf8e85b60c6edfbf7c7c4c"), looks := false }, kinds := [], alts := [], laidByText := true, laidKinds := [.data], laidTests := true, laidLooks := .later }
def CrcBurstsUptoCardSaid : Prop := Claim7.holds Tryd.pinned (.plain (OpenSpec.upto crcBurstsSpec)) crcBurstsUptoCard

/-- THE SECOND FORM's CARD OF 'matriculalaw07.CrcLast'. -/
def crcLastUptoCard : Claim7 := { stood := { row := crcLastUptoRow, standIns := [], harness := (true, "5ee4355b4e956e30364f77cceb3bbc8bc70297a9ffaf8e85b60c6edfbf7c7c4c"), looks := false }, kinds := [], alts := [], laidByText := true, laidKinds := [.data], laidTests := true, laidLooks := .later }
def CrcLastUptoCardSaid : Prop := Claim7.holds Tryd.pinned (.plain (OpenSpec.upto crcLastSpec)) crcLastUptoCard

/-- THE SECOND FORM's CARD OF 'matriculalaw07.CrcSums'. -/
def crcSumsUptoCard : Claim7 := { stood := { row := crcSumsUptoRow, standIns := [], harness := (true, "5ee4355b4e956e30364f77cceb3bbc8bc70297a9ffaf8e85b60c6edfbf7c7c4c"), looks := false }, kinds := [], alts := [], laidByText := true, laidKinds := [.data], laidTests := true, laidLooks := .later }
def CrcSumsUptoCardSaid : Prop := Claim7.holds Tryd.pinned (.plain (OpenSpec.upto crcSumsSpec)) crcSumsUptoCard
end Rows
end Go.Proofs.YtlfdgmiiijjbhaaDoor
