/-
  DERIVED. GIVEN WITH THE SEED: THE CARDS: each row of YtbpeohadgplaaaaDoorRows.lean that lists a variable, with what it lists TIED to the program's text (the seventh form; the later family's looks); each row that meets fmt, with fmt's text TOLD by the authors' own Lean function (tested against real Go, not proved from fmt's source: count such statements apart). THE CARD IS WHAT COUNTS. Prove the row's statement (the work); the ties are given (YtbpeohadgplaaaaDoorTie.lean); close each card by the builder's one call (the guide's Derived/Test/ToyasCard.lean, 'card_holds'). Laid BY PROGRAM, IN A SANDBOX (cutbox-door.mjs). By AI agents, Wed Nov 11 2026. No macro, syntax, notation, axiom, sorry.
-/
import Derived.Test.YtbpeohadgplaaaaDoorRows
import GoSem.ClaimSeven
namespace Go.Proofs.YtbpeohadgplaaaaDoor
namespace Rows

/-- THE TIED CARD OF 'matriculalaw02.UrlReads'. -/
def urlReadsCard : Claim7 := { stood := { row := urlReadsRow, standIns := [], harness := (true, "8d3f4f9a272e7f9c053088060d8772e0ede8ed958c0fcd03ae381e88c936d7a4"), looks := false }, kinds := [], alts := [], laidByText := true, laidKinds := [.data, .data, .data, .data], laidTests := true, laidLooks := .later }
def UrlReadsCardSaid : Prop := Claim7.holds Tryd.pinned (.plain (OpenSpec.ofChange urlReadsSpec)) urlReadsCard

/-- THE TIED CARD OF 'matriculalaw03.RequestReads'. -/
def requestReadsCard : Claim7 := { stood := { row := requestReadsRow, standIns := [], harness := (true, "8d3f4f9a272e7f9c053088060d8772e0ede8ed958c0fcd03ae381e88c936d7a4"), looks := false }, kinds := [], alts := [], laidByText := true, laidKinds := [.data, .data, .pinned], laidTests := true, laidLooks := .later }
def RequestReadsCardSaid : Prop := Claim7.holds Tryd.pinned (.plain (OpenSpec.ofChange requestReadsSpec)) requestReadsCard

/-- THE TIED CARD OF 'matriculalaw03.RequestTells'. -/
def requestTellsCard : Claim7 := { stood := { row := requestTellsRow, standIns := [], harness := (true, "8d3f4f9a272e7f9c053088060d8772e0ede8ed958c0fcd03ae381e88c936d7a4"), looks := false }, kinds := [], alts := [], laidByText := true, laidKinds := [.data, .data, .pinned], laidTests := true, laidLooks := .later }
def RequestTellsCardSaid : Prop := Claim7.holds Tryd.pinned (.plain (OpenSpec.ofChange requestTellsSpec)) requestTellsCard

/-- THE TIED CARD OF 'matriculalaw03.RequestBack'. -/
def requestBackCard : Claim7 := { stood := { row := requestBackRow, standIns := [], harness := (true, "8d3f4f9a272e7f9c053088060d8772e0ede8ed958c0fcd03ae381e88c936d7a4"), looks := false }, kinds := [], alts := [], laidByText := true, laidKinds := [.data, .data, .pinned], laidTests := true, laidLooks := .later }
def RequestBackCardSaid : Prop := Claim7.holds Tryd.pinned (.plain (OpenSpec.ofChange requestBackSpec)) requestBackCard

/-- THE TIED CARD OF 'matriculalaw03.RequestAgain'. -/
def requestAgainCard : Claim7 := { stood := { row := requestAgainRow, standIns := [], harness := (true, "8d3f4f9a272e7f9c053088060d8772e0ede8ed958c0fcd03ae381e88c936d7a4"), looks := false }, kinds := [], alts := [], laidByText := true, laidKinds := [.data, .data, .pinned], laidTests := true, laidLooks := .later }
def RequestAgainCardSaid : Prop := Claim7.holds Tryd.pinned (.plain (OpenSpec.ofChange requestAgainSpec)) requestAgainCard

/-- THE TIED CARD OF 'matriculalaw03.RequestCuts'. -/
def requestCutsCard : Claim7 := { stood := { row := requestCutsRow, standIns := [], harness := (true, "8d3f4f9a272e7f9c053088060d8772e0ede8ed958c0fcd03ae381e88c936d7a4"), looks := false }, kinds := [], alts := [], laidByText := true, laidKinds := [.data, .data, .pinned], laidTests := true, laidLooks := .later }
def RequestCutsCardSaid : Prop := Claim7.holds Tryd.pinned (.plain (OpenSpec.ofChange requestCutsSpec)) requestCutsCard

/-- THE TIED CARD OF 'matriculalaw03.RequestArgs'. -/
def requestArgsCard : Claim7 := { stood := { row := requestArgsRow, standIns := [], harness := (true, "8d3f4f9a272e7f9c053088060d8772e0ede8ed958c0fcd03ae381e88c936d7a4"), looks := false }, kinds := [], alts := [], laidByText := true, laidKinds := [.data, .data, .pinned], laidTests := true, laidLooks := .later }
def RequestArgsCardSaid : Prop := Claim7.holds Tryd.pinned (.plain (OpenSpec.ofChange requestArgsSpec)) requestArgsCard

/-- THE SECOND FORM's CARD OF 'matriculalaw02.UrlReads'. -/
def urlReadsUptoCard : Claim7 := { stood := { row := urlReadsUptoRow, standIns := [], harness := (true, "8d3f4f9a272e7f9c053088060d8772e0ede8ed958c0fcd03ae381e88c936d7a4"), looks := false }, kinds := [], alts := [], laidByText := true, laidKinds := [.data, .data, .data, .data], laidTests := true, laidLooks := .later }
def UrlReadsUptoCardSaid : Prop := Claim7.holds Tryd.pinned (.plain (OpenSpec.upto urlReadsSpec)) urlReadsUptoCard

/-- THE SECOND FORM's CARD OF 'matriculalaw03.RequestReads'. -/
def requestReadsUptoCard : Claim7 := { stood := { row := requestReadsUptoRow, standIns := [], harness := (true, "8d3f4f9a272e7f9c053088060d8772e0ede8ed958c0fcd03ae381e88c936d7a4"), looks := false }, kinds := [], alts := [], laidByText := true, laidKinds := [.data, .data, .pinned], laidTests := true, laidLooks := .later }
def RequestReadsUptoCardSaid : Prop := Claim7.holds Tryd.pinned (.plain (OpenSpec.upto requestReadsSpec)) requestReadsUptoCard

/-- THE SECOND FORM's CARD OF 'matriculalaw03.RequestTells'. -/
def requestTellsUptoCard : Claim7 := { stood := { row := requestTellsUptoRow, standIns := [], harness := (true, "8d3f4f9a272e7f9c053088060d8772e0ede8ed958c0fcd03ae381e88c936d7a4"), looks := false }, kinds := [], alts := [], laidByText := true, laidKinds := [.data, .data, .pinned], laidTests := true, laidLooks := .later }
def RequestTellsUptoCardSaid : Prop := Claim7.holds Tryd.pinned (.plain (OpenSpec.upto requestTellsSpec)) requestTellsUptoCard

/-- THE SECOND FORM's CARD OF 'matriculalaw03.RequestBack'. -/
def requestBackUptoCard : Claim7 := { stood := { row := requestBackUptoRow, standIns := [], harness := (true, "8d3f4f9a272e7f9c053088060d8772e0ede8ed958c0fcd03ae381e88c936d7a4"), looks := false }, kinds := [], alts := [], laidByText := true, laidKinds := [.data, .data, .pinned], laidTests := true, laidLooks := .later }
def RequestBackUptoCardSaid : Prop := Claim7.holds Tryd.pinned (.plain (OpenSpec.upto requestBackSpec)) requestBackUptoCard

/-- THE SECOND FORM's CARD OF 'matriculalaw03.RequestAgain'. -/
def requestAgainUptoCard : Claim7 := { stood := { row := requestAgainUptoRow, standIns := [], harness := (true, "8d3f4f9a272e7f9c053088060d8772e0ede8ed958c0fcd03ae381e88c936d7a4"), looks := false }, kinds := [], alts := [], laidByText := true, laidKinds := [.data, .data, .pinned], laidTests := true, laidLooks := .later }
def RequestAgainUptoCardSaid : Prop := Claim7.holds Tryd.pinned (.plain (OpenSpec.upto requestAgainSpec)) requestAgainUptoCard

/-- THE SECOND FORM's CARD OF 'matriculalaw03.RequestCuts'. -/
def requestCutsUptoCard : Claim7 := { stood := { row := requestCutsUptoRow, standIns := [], harness := (true, "8d3f4f9a272e7f9c053088060d8772e0ede8ed958c0fcd03ae381e88c936d7a4"), looks := false }, kinds := [], alts := [], laidByText := true, laidKinds := [.data, .data, .pinned], laidTests := true, laidLooks := .later }
def RequestCutsUptoCardSaid : Prop := Claim7.holds Tryd.pinned (.plain (OpenSpec.upto requestCutsSpec)) requestCutsUptoCard

/-- THE SECOND FORM's CARD OF 'matriculalaw03.RequestArgs'. -/
def requestArgsUptoCard : Claim7 := { stood := { row := requestArgsUptoRow, standIns := [], harness := (true, "8d3f4f9a272e7f9c053088060d8772e0ede8ed958c0fcd03ae381e88c936d7a4"), looks := false }, kinds := [], alts := [], laidByText := true, laidKinds := [.data, .data, .pinned], laidTests := true, laidLooks := .later }
def RequestArgsUptoCardSaid : Prop := Claim7.holds Tryd.pinned (.plain (OpenSpec.upto requestArgsSpec)) requestArgsUptoCard
end Rows
end Go.Proofs.YtbpeohadgplaaaaDoor
