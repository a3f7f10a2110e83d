/-
  DERIVED. GIVEN WITH THE SEED: THE CARDS: each row of YtkmcjededpamnaaGreatDoorRows.lean that lists a variable, with what it lists TIED to the program's text (the seventh form; the later family's looks); each row that meets fmt, with fmt's text TOLD by the authors' own Lean function (tested against real Go, not proved from fmt's source: count such statements apart). THE CARD IS WHAT COUNTS. Prove the row's statement (the work); the ties are given (YtkmcjededpamnaaGreatDoorTie.lean); close each card by the builder's one call (the guide's Derived/Test/ToyasCard.lean, 'card_holds'). Laid BY PROGRAM, IN A SANDBOX (cutbox-door.mjs). By AI agents, Wed Nov 11 2026. No macro, syntax, notation, axiom, sorry.
-/
import Derived.Test.YtkmcjededpamnaaGreatDoorRows
import GoSem.ClaimSeven
namespace Go.Proofs.YtkmcjededpamnaaGreatDoor
namespace Rows

/-- THE TIED CARD OF 'hawserlaw07.DiskRuns'. -/
def diskRunsCard : Claim7 := { stood := { row := diskRunsRow, standIns := [], harness := (true, "e4f4387dd34d20bda76f67e658b815cdfc81ed8f1fe253f59524be32ce15e80b"), looks := false }, kinds := [], alts := [], laidByText := true, laidKinds := [.data, .pinned], laidTests := true, laidLooks := .later }
def DiskRunsCardSaid : Prop := Claim7.holds Tryz.pinned (.plain (OpenSpec.ofChange diskRunsSpec)) diskRunsCard

/-- THE TIED CARD OF 'hawserlaw10.StoreRuns'. -/
def storeRunsCard : Claim7 := { stood := { row := storeRunsRow, standIns := [], harness := (true, "e4f4387dd34d20bda76f67e658b815cdfc81ed8f1fe253f59524be32ce15e80b"), looks := false }, kinds := [], alts := [], laidByText := true, laidKinds := [.data, .pinned], laidTests := true, laidLooks := .later }
def StoreRunsCardSaid : Prop := Claim7.holds Tryz.pinned (.plain (OpenSpec.ofChange storeRunsSpec)) storeRunsCard

/-- THE TIED CARD OF 'hawserlaw11.ScanRuns'. -/
def scanRunsCard : Claim7 := { stood := { row := scanRunsRow, standIns := [], harness := (true, "e4f4387dd34d20bda76f67e658b815cdfc81ed8f1fe253f59524be32ce15e80b"), looks := false }, kinds := [], alts := [], laidByText := true, laidKinds := [.data, .data, .data, .pinned], laidTests := true, laidLooks := .later }
def ScanRunsCardSaid : Prop := Claim7.holds Tryz.pinned (.plain (OpenSpec.ofChange scanRunsSpec)) scanRunsCard

/-- THE TIED CARD OF 'hawserlaw11.ScanSees'. -/
def scanSeesCard : Claim7 := { stood := { row := scanSeesRow, standIns := [], harness := (true, "e4f4387dd34d20bda76f67e658b815cdfc81ed8f1fe253f59524be32ce15e80b"), looks := false }, kinds := [], alts := [], laidByText := true, laidKinds := [.data, .pinned], laidTests := true, laidLooks := .later }
def ScanSeesCardSaid : Prop := Claim7.holds Tryz.pinned (.plain (OpenSpec.ofChange scanSeesSpec)) scanSeesCard

/-- THE TIED CARD OF 'hawserlaw11.ScanFast'. -/
def scanFastCard : Claim7 := { stood := { row := scanFastRow, standIns := [], harness := (true, "e4f4387dd34d20bda76f67e658b815cdfc81ed8f1fe253f59524be32ce15e80b"), looks := false }, kinds := [], alts := [], laidByText := true, laidKinds := [.data, .data, .data, .pinned], laidTests := true, laidLooks := .later }
def ScanFastCardSaid : Prop := Claim7.holds Tryz.pinned (.plain (OpenSpec.ofChange scanFastSpec)) scanFastCard

/-- THE TIED CARD OF 'hawserlaw11.ScanHides'. -/
def scanHidesCard : Claim7 := { stood := { row := scanHidesRow, standIns := [], harness := (true, "e4f4387dd34d20bda76f67e658b815cdfc81ed8f1fe253f59524be32ce15e80b"), looks := false }, kinds := [], alts := [], laidByText := true, laidKinds := [.data, .pinned], laidTests := true, laidLooks := .later }
def ScanHidesCardSaid : Prop := Claim7.holds Tryz.pinned (.plain (OpenSpec.ofChange scanHidesSpec)) scanHidesCard

/-- THE SECOND FORM's CARD OF 'hawserlaw07.DiskRuns'. -/
def diskRunsUptoCard : Claim7 := { stood := { row := diskRunsUptoRow, standIns := [], harness := (true, "e4f4387dd34d20bda76f67e658b815cdfc81ed8f1fe253f59524be32ce15e80b"), looks := false }, kinds := [], alts := [], laidByText := true, laidKinds := [.data, .pinned], laidTests := true, laidLooks := .later }
def DiskRunsUptoCardSaid : Prop := Claim7.holds Tryz.pinned (.plain (OpenSpec.upto diskRunsSpec)) diskRunsUptoCard

/-- THE SECOND FORM's CARD OF 'hawserlaw10.StoreRuns'. -/
def storeRunsUptoCard : Claim7 := { stood := { row := storeRunsUptoRow, standIns := [], harness := (true, "e4f4387dd34d20bda76f67e658b815cdfc81ed8f1fe253f59524be32ce15e80b"), looks := false }, kinds := [], alts := [], laidByText := true, laidKinds := [.data, .pinned], laidTests := true, laidLooks := .later }
def StoreRunsUptoCardSaid : Prop := Claim7.holds Tryz.pinned (.plain (OpenSpec.upto storeRunsSpec)) storeRunsUptoCard

/-- THE SECOND FORM's CARD OF 'hawserlaw11.ScanRuns'. -/
def scanRunsUptoCard : Claim7 := { stood := { row := scanRunsUptoRow, standIns := [], harness := (true, "e4f4387dd34d20bda76f67e658b815cdfc81ed8f1fe253f59524be32ce15e80b"), looks := false }, kinds := [], alts := [], laidByText := true, laidKinds := [.data, .data, .data, .pinned], laidTests := true, laidLooks := .later }
def ScanRunsUptoCardSaid : Prop := Claim7.holds Tryz.pinned (.plain (OpenSpec.upto scanRunsSpec)) scanRunsUptoCard

/-- THE SECOND FORM's CARD OF 'hawserlaw11.ScanSees'. -/
def scanSeesUptoCard : Claim7 := { stood := { row := scanSeesUptoRow, standIns := [], harness := (true, "e4f4387dd34d20bda76f67e658b815cdfc81ed8f1fe253f59524be32ce15e80b"), looks := false }, kinds := [], alts := [], laidByText := true, laidKinds := [.data, .pinned], laidTests := true, laidLooks := .later }
def ScanSeesUptoCardSaid : Prop := Claim7.holds Tryz.pinned (.plain (OpenSpec.upto scanSeesSpec)) scanSeesUptoCard

/-- THE SECOND FORM's CARD OF 'hawserlaw11.ScanFast'. -/
def scanFastUptoCard : Claim7 := { stood := { row := scanFastUptoRow, standIns := [], harness := (true, "e4f4387dd34d20bda76f67e658b815cdfc81ed8f1fe253f59524be32ce15e80b"), looks := false }, kinds := [], alts := [], laidByText := true, laidKinds := [.data, .data, .data, .pinned], laidTests := true, laidLooks := .later }
def ScanFastUptoCardSaid : Prop := Claim7.holds Tryz.pinned (.plain (OpenSpec.upto scanFastSpec)) scanFastUptoCard

/-- THE SECOND FORM's CARD OF 'hawserlaw11.ScanHides'. -/
def scanHidesUptoCard : Claim7 := { stood := { row := scanHidesUptoRow, standIns := [], harness := (true, "e4f4387dd34d20bda76f67e658b815cdfc81ed8f1fe253f59524be32ce15e80b"), looks := false }, kinds := [], alts := [], laidByText := true, laidKinds := [.data, .pinned], laidTests := true, laidLooks := .later }
def ScanHidesUptoCardSaid : Prop := Claim7.holds Tryz.pinned (.plain (OpenSpec.upto scanHidesSpec)) scanHidesUptoCard
end Rows
end Go.Proofs.YtkmcjededpamnaaGreatDoor
