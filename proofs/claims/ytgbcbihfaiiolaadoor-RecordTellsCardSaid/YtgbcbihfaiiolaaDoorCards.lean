/-
  DERIVED. GIVEN WITH THE SEED: THE CARDS: each row of YtgbcbihfaiiolaaDoorRows.lean that lists a variable, with what it lists TIED to the program's text (the seventh form; the later family's looks); each row that meets fmt, with fmt's text TOLD by the authors' own Lean function (tested against real Go, not proved from fmt's source: count such statements apart). THE CARD IS WHAT COUNTS. Prove the row's statement (the work); the ties are given (YtgbcbihfaiiolaaDoorTie.lean); close each card by the builder's one call (the guide's Derived/Test/ToyasCard.lean, 'card_holds'). Laid BY PROGRAM, IN A SANDBOX (cutbox-door.mjs). By AI agents, Wed Nov 11 2026. No macro, syntax, notation, axiom, sorry.
-/
import Derived.Test.YtgbcbihfaiiolaaDoorRows
import GoSem.ClaimSeven
namespace Go.Proofs.YtgbcbihfaiiolaaDoor
namespace Rows

/-- THE TIED CARD OF 'matriculalaw13.RecordTells'. -/
def recordTellsCard : Claim7 := { stood := { row := recordTellsRow, standIns := [], harness := (true, "96536499fd894b6bbd9972adadf556d076537bd0a076030106dc2dbccd5f745a"), looks := true }, kinds := [], alts := [], laidByText := true, laidKinds := [.data, .data, .data, .sentinel, .sentinel, .data], laidTests := true, laidLooks := .later }
def RecordTellsCardSaid : Prop := Claim7.holds Tryd.pinned (.plain (OpenSpec.ofChange recordTellsSpec)) recordTellsCard

/-- THE TIED CARD OF 'matriculalaw13.RecordBack'. -/
def recordBackCard : Claim7 := { stood := { row := recordBackRow, standIns := [], harness := (true, "96536499fd894b6bbd9972adadf556d076537bd0a076030106dc2dbccd5f745a"), looks := true }, kinds := [], alts := [], laidByText := true, laidKinds := [.data, .data, .data, .sentinel, .sentinel, .data], laidTests := true, laidLooks := .later }
def RecordBackCardSaid : Prop := Claim7.holds Tryd.pinned (.plain (OpenSpec.ofChange recordBackSpec)) recordBackCard

/-- THE TIED CARD OF 'matriculalaw13.RecordUnlike'. -/
def recordUnlikeCard : Claim7 := { stood := { row := recordUnlikeRow, standIns := [], harness := (true, "96536499fd894b6bbd9972adadf556d076537bd0a076030106dc2dbccd5f745a"), looks := true }, kinds := [], alts := [], laidByText := true, laidKinds := [.data, .data, .data, .sentinel, .sentinel, .data], laidTests := true, laidLooks := .later }
def RecordUnlikeCardSaid : Prop := Claim7.holds Tryd.pinned (.plain (OpenSpec.ofChange recordUnlikeSpec)) recordUnlikeCard

/-- THE TIED CARD OF 'matriculalaw13.RecordComes'. -/
def recordComesCard : Claim7 := { stood := { row := recordComesRow, standIns := [], harness := (true, "96536499fd894b6bbd9972adadf556d076537bd0a076030106dc2dbccd5f745a"), looks := true }, kinds := [], alts := [], laidByText := true, laidKinds := [.data, .data, .data, .sentinel, .sentinel, .data], laidTests := true, laidLooks := .later }
def RecordComesCardSaid : Prop := Claim7.holds Tryd.pinned (.plain (OpenSpec.ofChange recordComesSpec)) recordComesCard

/-- THE TIED CARD OF 'matriculalaw13.RecordSteps'. -/
def recordStepsCard : Claim7 := { stood := { row := recordStepsRow, standIns := [], harness := (true, "96536499fd894b6bbd9972adadf556d076537bd0a076030106dc2dbccd5f745a"), looks := true }, kinds := [], alts := [], laidByText := true, laidKinds := [.data, .data, .data, .sentinel, .sentinel, .data], laidTests := true, laidLooks := .later }
def RecordStepsCardSaid : Prop := Claim7.holds Tryd.pinned (.plain (OpenSpec.ofChange recordStepsSpec)) recordStepsCard

/-- THE SECOND FORM's CARD OF 'matriculalaw13.RecordTells'. -/
def recordTellsUptoCard : Claim7 := { stood := { row := recordTellsUptoRow, standIns := [], harness := (true, "96536499fd894b6bbd9972adadf556d076537bd0a076030106dc2dbccd5f745a"), looks := true }, kinds := [], alts := [], laidByText := true, laidKinds := [.data, .data, .data, .sentinel, .sentinel, .data], laidTests := true, laidLooks := .later }
def RecordTellsUptoCardSaid : Prop := Claim7.holds Tryd.pinned (.plain (OpenSpec.upto recordTellsSpec)) recordTellsUptoCard

/-- THE SECOND FORM's CARD OF 'matriculalaw13.RecordBack'. -/
def recordBackUptoCard : Claim7 := { stood := { row := recordBackUptoRow, standIns := [], harness := (true, "96536499fd894b6bbd9972adadf556d076537bd0a076030106dc2dbccd5f745a"), looks := true }, kinds := [], alts := [], laidByText := true, laidKinds := [.data, .data, .data, .sentinel, .sentinel, .data], laidTests := true, laidLooks := .later }
def RecordBackUptoCardSaid : Prop := Claim7.holds Tryd.pinned (.plain (OpenSpec.upto recordBackSpec)) recordBackUptoCard

/-- THE SECOND FORM's CARD OF 'matriculalaw13.RecordUnlike'. -/
def recordUnlikeUptoCard : Claim7 := { stood := { row := recordUnlikeUptoRow, standIns := [], harness := (true, "96536499fd894b6bbd9972adadf556d076537bd0a076030106dc2dbccd5f745a"), looks := true }, kinds := [], alts := [], laidByText := true, laidKinds := [.data, .data, .data, .sentinel, .sentinel, .data], laidTests := true, laidLooks := .later }
def RecordUnlikeUptoCardSaid : Prop := Claim7.holds Tryd.pinned (.plain (OpenSpec.upto recordUnlikeSpec)) recordUnlikeUptoCard

/-- THE SECOND FORM's CARD OF 'matriculalaw13.RecordComes'. -/
def recordComesUptoCard : Claim7 := { stood := { row := recordComesUptoRow, standIns := [], harness := (true, "96536499fd894b6bbd9972adadf556d076537bd0a076030106dc2dbccd5f745a"), looks := true }, kinds := [], alts := [], laidByText := true, laidKinds := [.data, .data, .data, .sentinel, .sentinel, .data], laidTests := true, laidLooks := .later }
def RecordComesUptoCardSaid : Prop := Claim7.holds Tryd.pinned (.plain (OpenSpec.upto recordComesSpec)) recordComesUptoCard

/-- THE SECOND FORM's CARD OF 'matriculalaw13.RecordSteps'. -/
def recordStepsUptoCard : Claim7 := { stood := { row := recordStepsUptoRow, standIns := [], harness := (true, "96536499fd894b6bbd9972adadf556d076537bd0a076030106dc2dbccd5f745a"), looks := true }, kinds := [], alts := [], laidByText := true, laidKinds := [.data, .data, .data, .sentinel, .sentinel, .data], laidTests := true, laidLooks := .later }
def RecordStepsUptoCardSaid : Prop := Claim7.holds Tryd.pinned (.plain (OpenSpec.upto recordStepsSpec)) recordStepsUptoCard
end Rows
end Go.Proofs.YtgbcbihfaiiolaaDoor
