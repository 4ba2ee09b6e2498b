/-
  DERIVED. GIVEN WITH THE SEED: THE CARDS: each row of YtihfpockmginfaaDoorRows.lean that lists a variable, with what it lists TIED to the program's text (the seventh form; the later family's looks); each row that meets fmt, with fmt's text TOLD by the authors' own Lean function (tested against real Go, not proved from fmt's source: count such statements apart). THE CARD IS WHAT COUNTS. Prove the row's statement (the work); the ties are given (YtihfpockmginfaaDoorTie.lean); close each card by the builder's one call (the guide's Derived/Test/ToyasCard.lean, 'card_holds'). Laid BY PROGRAM, IN A SANDBOX (cutbox-door.mjs). By AI agents, Wed Nov 11 2026. No macro, syntax, notation, axiom, sorry.
-/
import Derived.Test.YtihfpockmginfaaDoorRows
import GoSem.ClaimSeven
namespace Go.Proofs.YtihfpockmginfaaDoor
namespace Rows

/-- THE TIED CARD OF 'matriculalaw12.TicketTells'. -/
def ticketTellsCard : Claim7 := { stood := { row := ticketTellsRow, standIns := [], harness := (true, "8f48a3f3cdd7a29a8a2e62939a8cf532a40bb5ac7e9c7df12e48903d1f6f7cda"), looks := true }, kinds := [], alts := [], laidByText := true, laidKinds := [.data, .data, .data, .sentinel, .sentinel, .data], laidTests := true, laidLooks := .later }
def TicketTellsCardSaid : Prop := Claim7.holds Tryd.pinned (.plain (OpenSpec.ofChange ticketTellsSpec)) ticketTellsCard

/-- THE TIED CARD OF 'matriculalaw12.TicketBack'. -/
def ticketBackCard : Claim7 := { stood := { row := ticketBackRow, standIns := [], harness := (true, "8f48a3f3cdd7a29a8a2e62939a8cf532a40bb5ac7e9c7df12e48903d1f6f7cda"), looks := true }, kinds := [], alts := [], laidByText := true, laidKinds := [.data, .data, .data, .sentinel, .sentinel, .data], laidTests := true, laidLooks := .later }
def TicketBackCardSaid : Prop := Claim7.holds Tryd.pinned (.plain (OpenSpec.ofChange ticketBackSpec)) ticketBackCard

/-- THE TIED CARD OF 'matriculalaw12.TicketUnlike'. -/
def ticketUnlikeCard : Claim7 := { stood := { row := ticketUnlikeRow, standIns := [], harness := (true, "8f48a3f3cdd7a29a8a2e62939a8cf532a40bb5ac7e9c7df12e48903d1f6f7cda"), looks := true }, kinds := [], alts := [], laidByText := true, laidKinds := [.data, .data, .data, .sentinel, .sentinel, .data], laidTests := true, laidLooks := .later }
def TicketUnlikeCardSaid : Prop := Claim7.holds Tryd.pinned (.plain (OpenSpec.ofChange ticketUnlikeSpec)) ticketUnlikeCard

/-- THE TIED CARD OF 'matriculalaw12.TicketFinds'. -/
def ticketFindsCard : Claim7 := { stood := { row := ticketFindsRow, standIns := [], harness := (true, "8f48a3f3cdd7a29a8a2e62939a8cf532a40bb5ac7e9c7df12e48903d1f6f7cda"), looks := true }, kinds := [], alts := [], laidByText := true, laidKinds := [.data, .data, .data, .sentinel, .sentinel, .data], laidTests := true, laidLooks := .later }
def TicketFindsCardSaid : Prop := Claim7.holds Tryd.pinned (.plain (OpenSpec.ofChange ticketFindsSpec)) ticketFindsCard

/-- THE TIED CARD OF 'matriculalaw12.TicketMints'. -/
def ticketMintsCard : Claim7 := { stood := { row := ticketMintsRow, standIns := [], harness := (true, "8f48a3f3cdd7a29a8a2e62939a8cf532a40bb5ac7e9c7df12e48903d1f6f7cda"), looks := true }, kinds := [], alts := [], laidByText := true, laidKinds := [.data, .data, .data, .sentinel, .sentinel, .data], laidTests := true, laidLooks := .later }
def TicketMintsCardSaid : Prop := Claim7.holds Tryd.pinned (.plain (OpenSpec.ofChange ticketMintsSpec)) ticketMintsCard

/-- THE SECOND FORM's CARD OF 'matriculalaw12.TicketTells'. -/
def ticketTellsUptoCard : Claim7 := { stood := { row := ticketTellsUptoRow, standIns := [], harness := (true, "8f48a3f3cdd7a29a8a2e62939a8cf532a40bb5ac7e9c7df12e48903d1f6f7cda"), looks := true }, kinds := [], alts := [], laidByText := true, laidKinds := [.data, .data, .data, .sentinel, .sentinel, .data], laidTests := true, laidLooks := .later }
def TicketTellsUptoCardSaid : Prop := Claim7.holds Tryd.pinned (.plain (OpenSpec.upto ticketTellsSpec)) ticketTellsUptoCard

/-- THE SECOND FORM's CARD OF 'matriculalaw12.TicketBack'. -/
def ticketBackUptoCard : Claim7 := { stood := { row := ticketBackUptoRow, standIns := [], harness := (true, "8f48a3f3cdd7a29a8a2e62939a8cf532a40bb5ac7e9c7df12e48903d1f6f7cda"), looks := true }, kinds := [], alts := [], laidByText := true, laidKinds := [.data, .data, .data, .sentinel, .sentinel, .data], laidTests := true, laidLooks := .later }
def TicketBackUptoCardSaid : Prop := Claim7.holds Tryd.pinned (.plain (OpenSpec.upto ticketBackSpec)) ticketBackUptoCard

/-- THE SECOND FORM's CARD OF 'matriculalaw12.TicketUnlike'. -/
def ticketUnlikeUptoCard : Claim7 := { stood := { row := ticketUnlikeUptoRow, standIns := [], harness := (true, "8f48a3f3cdd7a29a8a2e62939a8cf532a40bb5ac7e9c7df12e48903d1f6f7cda"), looks := true }, kinds := [], alts := [], laidByText := true, laidKinds := [.data, .data, .data, .sentinel, .sentinel, .data], laidTests := true, laidLooks := .later }
def TicketUnlikeUptoCardSaid : Prop := Claim7.holds Tryd.pinned (.plain (OpenSpec.upto ticketUnlikeSpec)) ticketUnlikeUptoCard

/-- THE SECOND FORM's CARD OF 'matriculalaw12.TicketFinds'. -/
def ticketFindsUptoCard : Claim7 := { stood := { row := ticketFindsUptoRow, standIns := [], harness := (true, "8f48a3f3cdd7a29a8a2e62939a8cf532a40bb5ac7e9c7df12e48903d1f6f7cda"), looks := true }, kinds := [], alts := [], laidByText := true, laidKinds := [.data, .data, .data, .sentinel, .sentinel, .data], laidTests := true, laidLooks := .later }
def TicketFindsUptoCardSaid : Prop := Claim7.holds Tryd.pinned (.plain (OpenSpec.upto ticketFindsSpec)) ticketFindsUptoCard

/-- THE SECOND FORM's CARD OF 'matriculalaw12.TicketMints'. -/
def ticketMintsUptoCard : Claim7 := { stood := { row := ticketMintsUptoRow, standIns := [], harness := (true, "8f48a3f3cdd7a29a8a2e62939a8cf532a40bb5ac7e9c7df12e48903d1f6f7cda"), looks := true }, kinds := [], alts := [], laidByText := true, laidKinds := [.data, .data, .data, .sentinel, .sentinel, .data], laidTests := true, laidLooks := .later }
def TicketMintsUptoCardSaid : Prop := Claim7.holds Tryd.pinned (.plain (OpenSpec.upto ticketMintsSpec)) ticketMintsUptoCard
end Rows
end Go.Proofs.YtihfpockmginfaaDoor
