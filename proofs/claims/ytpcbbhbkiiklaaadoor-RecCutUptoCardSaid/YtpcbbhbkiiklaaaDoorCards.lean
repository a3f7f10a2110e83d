/-
  DERIVED. GIVEN WITH THE SEED: THE CARDS: each row of YtpcbbhbkiiklaaaDoorRows.lean that lists a variable, with what it lists TIED to the program's text (the seventh form; the later family's looks); each row that meets fmt, with fmt's text TOLD by the authors' own Lean function (tested against real Go, not proved from fmt's source: count such statements apart). THE CARD IS WHAT COUNTS. Prove the row's statement (the work); the ties are given (YtpcbbhbkiiklaaaDoorTie.lean); close each card by the builder's one call (the guide's Derived/Test/ToyasCard.lean, 'card_holds'). Laid BY PROGRAM, IN A SANDBOX (cutbox-door.mjs). By AI agents, Wed Nov 11 2026. No macro, syntax, notation, axiom, sorry.
-/
import Derived.Test.YtpcbbhbkiiklaaaDoorRows
import GoSem.ClaimSeven
namespace Go.Proofs.YtpcbbhbkiiklaaaDoor
namespace Rows

/-- THE TIED CARD OF 'hawserlaw05.RecPacks'. -/
def recPacksCard : Claim7 := { stood := { row := recPacksRow, standIns := [], harness := (true, "13967f9a7cb63ad9caa515b453fec185cadf7a7578788723313e9832c80d3e2b"), looks := false }, kinds := [], alts := [], laidByText := true, laidKinds := [.data], laidTests := true, laidLooks := .later }
def RecPacksCardSaid : Prop := Claim7.holds Tryd.pinned (.plain (OpenSpec.ofChange recPacksSpec)) recPacksCard

/-- THE TIED CARD OF 'hawserlaw05.RecReads'. -/
def recReadsCard : Claim7 := { stood := { row := recReadsRow, standIns := [], harness := (true, "13967f9a7cb63ad9caa515b453fec185cadf7a7578788723313e9832c80d3e2b"), looks := false }, kinds := [], alts := [], laidByText := true, laidKinds := [.data], laidTests := true, laidLooks := .later }
def RecReadsCardSaid : Prop := Claim7.holds Tryd.pinned (.plain (OpenSpec.ofChange recReadsSpec)) recReadsCard

/-- THE TIED CARD OF 'hawserlaw05.RecBack'. -/
def recBackCard : Claim7 := { stood := { row := recBackRow, standIns := [], harness := (true, "13967f9a7cb63ad9caa515b453fec185cadf7a7578788723313e9832c80d3e2b"), looks := false }, kinds := [], alts := [], laidByText := true, laidKinds := [.data], laidTests := true, laidLooks := .later }
def RecBackCardSaid : Prop := Claim7.holds Tryd.pinned (.plain (OpenSpec.ofChange recBackSpec)) recBackCard

/-- THE TIED CARD OF 'hawserlaw05.RecTurned'. -/
def recTurnedCard : Claim7 := { stood := { row := recTurnedRow, standIns := [], harness := (true, "13967f9a7cb63ad9caa515b453fec185cadf7a7578788723313e9832c80d3e2b"), looks := false }, kinds := [], alts := [], laidByText := true, laidKinds := [.data], laidTests := true, laidLooks := .later }
def RecTurnedCardSaid : Prop := Claim7.holds Tryd.pinned (.plain (OpenSpec.ofChange recTurnedSpec)) recTurnedCard

/-- THE TIED CARD OF 'hawserlaw05.RecCut'. -/
def recCutCard : Claim7 := { stood := { row := recCutRow, standIns := [], harness := (true, "13967f9a7cb63ad9caa515b453fec185cadf7a7578788723313e9832c80d3e2b"), looks := false }, kinds := [], alts := [], laidByText := true, laidKinds := [.data], laidTests := true, laidLooks := .later }
def RecCutCardSaid : Prop := Claim7.holds Tryd.pinned (.plain (OpenSpec.ofChange recCutSpec)) recCutCard

/-- THE SECOND FORM's CARD OF 'hawserlaw05.RecPacks'. -/
def recPacksUptoCard : Claim7 := { stood := { row := recPacksUptoRow, standIns := [], harness := (true, "13967f9a7cb63ad9caa515b453fec185cadf7a7578788723313e9832c80d3e2b"), looks := false }, kinds := [], alts := [], laidByText := true, laidKinds := [.data], laidTests := true, laidLooks := .later }
def RecPacksUptoCardSaid : Prop := Claim7.holds Tryd.pinned (.plain (OpenSpec.upto recPacksSpec)) recPacksUptoCard

/-- THE SECOND FORM's CARD OF 'hawserlaw05.RecReads'. -/
def recReadsUptoCard : Claim7 := { stood := { row := recReadsUptoRow, standIns := [], harness := (true, "13967f9a7cb63ad9caa515b453fec185cadf7a7578788723313e9832c80d3e2b"), looks := false }, kinds := [], alts := [], laidByText := true, laidKinds := [.data], laidTests := true, laidLooks := .later }
def RecReadsUptoCardSaid : Prop := Claim7.holds Tryd.pinned (.plain (OpenSpec.upto recReadsSpec)) recReadsUptoCard

/-- THE SECOND FORM's CARD OF 'hawserlaw05.RecBack'. -/
def recBackUptoCard : Claim7 := { stood := { row := recBackUptoRow, standIns := [], harness := (true, "13967f9a7cb63ad9caa515b453fec185cadf7a7578788723313e9832c80d3e2b"), looks := false }, kinds := [], alts := [], laidByText := true, laidKinds := [.data], laidTests := true, laidLooks := .later }
def RecBackUptoCardSaid : Prop := Claim7.holds Tryd.pinned (.plain (OpenSpec.upto recBackSpec)) recBackUptoCard

/-- THE SECOND FORM's CARD OF 'hawserlaw05.RecTurned'. -/
def recTurnedUptoCard : Claim7 := { stood := { row := recTurnedUptoRow, standIns := [], harness := (true, "13967f9a7cb63ad9caa515b453fec185cadf7a7578788723313e9832c80d3e2b"), looks := false }, kinds := [], alts := [], laidByText := true, laidKinds := [.data], laidTests := true, laidLooks := .later }
def RecTurnedUptoCardSaid : Prop := Claim7.holds Tryd.pinned (.plain (OpenSpec.upto recTurnedSpec)) recTurnedUptoCard

/-- THE SECOND FORM's CARD OF 'hawserlaw05.RecCut'. -/
def recCutUptoCard : Claim7 := { stood := { row := recCutUptoRow, standIns := [], harness := (true, "13967f9a7cb63ad9caa515b453fec185cadf7a7578788723313e9832c80d3e2b"), looks := false }, kinds := [], alts := [], laidByText := true, laidKinds := [.data], laidTests := true, laidLooks := .later }
def RecCutUptoCardSaid : Prop := Claim7.holds Tryd.pinned (.plain (OpenSpec.upto recCutSpec)) recCutUptoCard
end Rows
end Go.Proofs.YtpcbbhbkiiklaaaDoor
