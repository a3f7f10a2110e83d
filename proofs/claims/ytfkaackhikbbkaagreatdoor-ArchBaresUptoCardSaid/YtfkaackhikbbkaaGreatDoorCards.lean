/-
  DERIVED. GIVEN WITH THE SEED: THE CARDS: each row of YtfkaackhikbbkaaGreatDoorRows.lean that lists a variable, with what it lists TIED to the program's text (the seventh form; the later family's looks); each row that meets fmt, with fmt's text TOLD by the authors' own Lean function (tested against real Go, not proved from fmt's source: count such statements apart). THE CARD IS WHAT COUNTS. Prove the row's statement (the work); the ties are given (YtfkaackhikbbkaaGreatDoorTie.lean); close each card by the builder's one call (the guide's Derived/Test/ToyasCard.lean, 'card_holds'). Laid BY PROGRAM, IN A SANDBOX (cutbox-door.mjs). By AI agents, Wed Nov 11 2026. No macro, syntax, notation, axiom, sorry.
-/
import Derived.Test.YtfkaackhikbbkaaGreatDoorRows
import GoSem.ClaimSeven
namespace Go.Proofs.YtfkaackhikbbkaaGreatDoor
namespace Rows

/-- THE TIED CARD OF 'hawserlaw09.ArchBares'. -/
def archBaresCard : Claim7 := { stood := { row := archBaresRow, standIns := [], harness := (true, "4ea7e77b145315d2e9666b634c9d949d933508b457e855914b134d374be42934"), looks := false }, kinds := [], alts := [], laidByText := true, laidKinds := [.data, .data, .data, .data, .pinned], laidTests := true, laidLooks := .later }
def ArchBaresCardSaid : Prop := Claim7.holds Tryz.pinned (.plain (OpenSpec.ofChange archBaresSpec)) archBaresCard

/-- THE TIED CARD OF 'hawserlaw09.ArchWrites'. -/
def archWritesCard : Claim7 := { stood := { row := archWritesRow, standIns := [], harness := (true, "4ea7e77b145315d2e9666b634c9d949d933508b457e855914b134d374be42934"), looks := false }, kinds := [], alts := [], laidByText := true, laidKinds := [.data, .data, .pinned], laidTests := true, laidLooks := .later }
def ArchWritesCardSaid : Prop := Claim7.holds Tryz.pinned (.plain (OpenSpec.ofChange archWritesSpec)) archWritesCard

/-- THE TIED CARD OF 'hawserlaw09.ArchReads'. -/
def archReadsCard : Claim7 := { stood := { row := archReadsRow, standIns := [], harness := (true, "4ea7e77b145315d2e9666b634c9d949d933508b457e855914b134d374be42934"), looks := false }, kinds := [], alts := [], laidByText := true, laidKinds := [.data, .data, .pinned], laidTests := true, laidLooks := .later }
def ArchReadsCardSaid : Prop := Claim7.holds Tryz.pinned (.plain (OpenSpec.ofChange archReadsSpec)) archReadsCard

/-- THE TIED CARD OF 'hawserlaw09.ArchTurned'. -/
def archTurnedCard : Claim7 := { stood := { row := archTurnedRow, standIns := [], harness := (true, "4ea7e77b145315d2e9666b634c9d949d933508b457e855914b134d374be42934"), looks := false }, kinds := [], alts := [], laidByText := true, laidKinds := [.data, .data, .pinned], laidTests := true, laidLooks := .later }
def ArchTurnedCardSaid : Prop := Claim7.holds Tryz.pinned (.plain (OpenSpec.ofChange archTurnedSpec)) archTurnedCard

/-- THE TIED CARD OF 'hawserlaw09.ArchSame'. -/
def archSameCard : Claim7 := { stood := { row := archSameRow, standIns := [], harness := (true, "4ea7e77b145315d2e9666b634c9d949d933508b457e855914b134d374be42934"), looks := false }, kinds := [], alts := [], laidByText := true, laidKinds := [.data, .data, .data, .data, .pinned], laidTests := true, laidLooks := .later }
def ArchSameCardSaid : Prop := Claim7.holds Tryz.pinned (.plain (OpenSpec.ofChange archSameSpec)) archSameCard

/-- THE TIED CARD OF 'hawserlaw09.ArchMatches'. -/
def archMatchesCard : Claim7 := { stood := { row := archMatchesRow, standIns := [], harness := (true, "4ea7e77b145315d2e9666b634c9d949d933508b457e855914b134d374be42934"), looks := false }, kinds := [], alts := [], laidByText := true, laidKinds := [.data, .data, .pinned], laidTests := true, laidLooks := .later }
def ArchMatchesCardSaid : Prop := Claim7.holds Tryz.pinned (.plain (OpenSpec.ofChange archMatchesSpec)) archMatchesCard

/-- THE SECOND FORM's CARD OF 'hawserlaw09.ArchBares'. -/
def archBaresUptoCard : Claim7 := { stood := { row := archBaresUptoRow, standIns := [], harness := (true, "4ea7e77b145315d2e9666b634c9d949d933508b457e855914b134d374be42934"), looks := false }, kinds := [], alts := [], laidByText := true, laidKinds := [.data, .data, .data, .data, .pinned], laidTests := true, laidLooks := .later }
def ArchBaresUptoCardSaid : Prop := Claim7.holds Tryz.pinned (.plain (OpenSpec.upto archBaresSpec)) archBaresUptoCard

/-- THE SECOND FORM's CARD OF 'hawserlaw09.ArchWrites'. -/
def archWritesUptoCard : Claim7 := { stood := { row := archWritesUptoRow, standIns := [], harness := (true, "4ea7e77b145315d2e9666b634c9d949d933508b457e855914b134d374be42934"), looks := false }, kinds := [], alts := [], laidByText := true, laidKinds := [.data, .data, .pinned], laidTests := true, laidLooks := .later }
def ArchWritesUptoCardSaid : Prop := Claim7.holds Tryz.pinned (.plain (OpenSpec.upto archWritesSpec)) archWritesUptoCard

/-- THE SECOND FORM's CARD OF 'hawserlaw09.ArchReads'. -/
def archReadsUptoCard : Claim7 := { stood := { row := archReadsUptoRow, standIns := [], harness := (true, "4ea7e77b145315d2e9666b634c9d949d933508b457e855914b134d374be42934"), looks := false }, kinds := [], alts := [], laidByText := true, laidKinds := [.data, .data, .pinned], laidTests := true, laidLooks := .later }
def ArchReadsUptoCardSaid : Prop := Claim7.holds Tryz.pinned (.plain (OpenSpec.upto archReadsSpec)) archReadsUptoCard

/-- THE SECOND FORM's CARD OF 'hawserlaw09.ArchTurned'. -/
def archTurnedUptoCard : Claim7 := { stood := { row := archTurnedUptoRow, standIns := [], harness := (true, "4ea7e77b145315d2e9666b634c9d949d933508b457e855914b134d374be42934"), looks := false }, kinds := [], alts := [], laidByText := true, laidKinds := [.data, .data, .pinned], laidTests := true, laidLooks := .later }
def ArchTurnedUptoCardSaid : Prop := Claim7.holds Tryz.pinned (.plain (OpenSpec.upto archTurnedSpec)) archTurnedUptoCard

/-- THE SECOND FORM's CARD OF 'hawserlaw09.ArchSame'. -/
def archSameUptoCard : Claim7 := { stood := { row := archSameUptoRow, standIns := [], harness := (true, "4ea7e77b145315d2e9666b634c9d949d933508b457e855914b134d374be42934"), looks := false }, kinds := [], alts := [], laidByText := true, laidKinds := [.data, .data, .data, .data, .pinned], laidTests := true, laidLooks := .later }
def ArchSameUptoCardSaid : Prop := Claim7.holds Tryz.pinned (.plain (OpenSpec.upto archSameSpec)) archSameUptoCard

/-- THE SECOND FORM's CARD OF 'hawserlaw09.ArchMatches'. -/
def archMatchesUptoCard : Claim7 := { stood := { row := archMatchesUptoRow, standIns := [], harness := (true, "4ea7e77b145315d2e9666b634c9d949d933508b457e855914b134d374be42934"), looks := false }, kinds := [], alts := [], laidByText := true, laidKinds := [.data, .data, .pinned], laidTests := true, laidLooks := .later }
def ArchMatchesUptoCardSaid : Prop := Claim7.holds Tryz.pinned (.plain (OpenSpec.upto archMatchesSpec)) archMatchesUptoCard
end Rows
end Go.Proofs.YtfkaackhikbbkaaGreatDoor
