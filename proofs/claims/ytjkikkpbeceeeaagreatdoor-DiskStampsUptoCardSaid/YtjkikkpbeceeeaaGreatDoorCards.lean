/-
  DERIVED. GIVEN WITH THE SEED: THE CARDS: each row of YtjkikkpbeceeeaaGreatDoorRows.lean that lists a variable, with what it lists TIED to the program's text (the seventh form; the later family's looks); each row that meets fmt, with fmt's text TOLD by the authors' own Lean function (tested against real Go, not proved from fmt's source: count such statements apart). THE CARD IS WHAT COUNTS. Prove the row's statement (the work); the ties are given (YtjkikkpbeceeeaaGreatDoorTie.lean); close each card by the builder's one call (the guide's Derived/Test/ToyasCard.lean, 'card_holds'). Laid BY PROGRAM, IN A SANDBOX (cutbox-door.mjs). By AI agents, Wed Nov 11 2026. No macro, syntax, notation, axiom, sorry.
-/
import Derived.Test.YtjkikkpbeceeeaaGreatDoorRows
import GoSem.ClaimSeven
namespace Go.Proofs.YtjkikkpbeceeeaaGreatDoor
namespace Rows

/-- THE TIED CARD OF 'hawserlaw07.DiskRuns'. -/
def diskRunsCard : Claim7 := { stood := { row := diskRunsRow, standIns := [], harness := (true, "b4d254cf3d86fb6037e7a1b2c707cf4e3a89face540c7cf6fb12849ab23d51c1"), looks := false }, kinds := [], alts := [], laidByText := true, laidKinds := [.data, .pinned], laidTests := true, laidLooks := .later }
def DiskRunsCardSaid : Prop := Claim7.holds Tryz.pinned (.plain (OpenSpec.ofChange diskRunsSpec)) diskRunsCard

/-- THE TIED CARD OF 'hawserlaw07.DiskSafe'. -/
def diskSafeCard : Claim7 := { stood := { row := diskSafeRow, standIns := [], harness := (true, "b4d254cf3d86fb6037e7a1b2c707cf4e3a89face540c7cf6fb12849ab23d51c1"), looks := false }, kinds := [], alts := [], laidByText := true, laidKinds := [.data, .pinned], laidTests := true, laidLooks := .later }
def DiskSafeCardSaid : Prop := Claim7.holds Tryz.pinned (.plain (OpenSpec.ofChange diskSafeSpec)) diskSafeCard

/-- THE TIED CARD OF 'hawserlaw07.DiskWhole'. -/
def diskWholeCard : Claim7 := { stood := { row := diskWholeRow, standIns := [], harness := (true, "b4d254cf3d86fb6037e7a1b2c707cf4e3a89face540c7cf6fb12849ab23d51c1"), looks := false }, kinds := [], alts := [], laidByText := true, laidKinds := [.data, .pinned], laidTests := true, laidLooks := .later }
def DiskWholeCardSaid : Prop := Claim7.holds Tryz.pinned (.plain (OpenSpec.ofChange diskWholeSpec)) diskWholeCard

/-- THE TIED CARD OF 'hawserlaw07.DiskReads'. -/
def diskReadsCard : Claim7 := { stood := { row := diskReadsRow, standIns := [], harness := (true, "b4d254cf3d86fb6037e7a1b2c707cf4e3a89face540c7cf6fb12849ab23d51c1"), looks := false }, kinds := [], alts := [], laidByText := true, laidKinds := [.data, .pinned], laidTests := true, laidLooks := .later }
def DiskReadsCardSaid : Prop := Claim7.holds Tryz.pinned (.plain (OpenSpec.ofChange diskReadsSpec)) diskReadsCard

/-- THE TIED CARD OF 'hawserlaw07.DiskStamps'. -/
def diskStampsCard : Claim7 := { stood := { row := diskStampsRow, standIns := [], harness := (true, "b4d254cf3d86fb6037e7a1b2c707cf4e3a89face540c7cf6fb12849ab23d51c1"), looks := false }, kinds := [], alts := [], laidByText := true, laidKinds := [.data, .pinned], laidTests := true, laidLooks := .later }
def DiskStampsCardSaid : Prop := Claim7.holds Tryz.pinned (.plain (OpenSpec.ofChange diskStampsSpec)) diskStampsCard

/-- THE TIED CARD OF 'hawserlaw07.DiskOff'. -/
def diskOffCard : Claim7 := { stood := { row := diskOffRow, standIns := [], harness := (true, "b4d254cf3d86fb6037e7a1b2c707cf4e3a89face540c7cf6fb12849ab23d51c1"), looks := false }, kinds := [], alts := [], laidByText := true, laidKinds := [.data, .pinned], laidTests := true, laidLooks := .later }
def DiskOffCardSaid : Prop := Claim7.holds Tryz.pinned (.plain (OpenSpec.ofChange diskOffSpec)) diskOffCard

/-- THE SECOND FORM's CARD OF 'hawserlaw07.DiskRuns'. -/
def diskRunsUptoCard : Claim7 := { stood := { row := diskRunsUptoRow, standIns := [], harness := (true, "b4d254cf3d86fb6037e7a1b2c707cf4e3a89face540c7cf6fb12849ab23d51c1"), looks := false }, kinds := [], alts := [], laidByText := true, laidKinds := [.data, .pinned], laidTests := true, laidLooks := .later }
def DiskRunsUptoCardSaid : Prop := Claim7.holds Tryz.pinned (.plain (OpenSpec.upto diskRunsSpec)) diskRunsUptoCard

/-- THE SECOND FORM's CARD OF 'hawserlaw07.DiskSafe'. -/
def diskSafeUptoCard : Claim7 := { stood := { row := diskSafeUptoRow, standIns := [], harness := (true, "b4d254cf3d86fb6037e7a1b2c707cf4e3a89face540c7cf6fb12849ab23d51c1"), looks := false }, kinds := [], alts := [], laidByText := true, laidKinds := [.data, .pinned], laidTests := true, laidLooks := .later }
def DiskSafeUptoCardSaid : Prop := Claim7.holds Tryz.pinned (.plain (OpenSpec.upto diskSafeSpec)) diskSafeUptoCard

/-- THE SECOND FORM's CARD OF 'hawserlaw07.DiskWhole'. -/
def diskWholeUptoCard : Claim7 := { stood := { row := diskWholeUptoRow, standIns := [], harness := (true, "b4d254cf3d86fb6037e7a1b2c707cf4e3a89face540c7cf6fb12849ab23d51c1"), looks := false }, kinds := [], alts := [], laidByText := true, laidKinds := [.data, .pinned], laidTests := true, laidLooks := .later }
def DiskWholeUptoCardSaid : Prop := Claim7.holds Tryz.pinned (.plain (OpenSpec.upto diskWholeSpec)) diskWholeUptoCard

/-- THE SECOND FORM's CARD OF 'hawserlaw07.DiskReads'. -/
def diskReadsUptoCard : Claim7 := { stood := { row := diskReadsUptoRow, standIns := [], harness := (true, "b4d254cf3d86fb6037e7a1b2c707cf4e3a89face540c7cf6fb12849ab23d51c1"), looks := false }, kinds := [], alts := [], laidByText := true, laidKinds := [.data, .pinned], laidTests := true, laidLooks := .later }
def DiskReadsUptoCardSaid : Prop := Claim7.holds Tryz.pinned (.plain (OpenSpec.upto diskReadsSpec)) diskReadsUptoCard

/-- THE SECOND FORM's CARD OF 'hawserlaw07.DiskStamps'. -/
def diskStampsUptoCard : Claim7 := { stood := { row := diskStampsUptoRow, standIns := [], harness := (true, "b4d254cf3d86fb6037e7a1b2c707cf4e3a89face540c7cf6fb12849ab23d51c1"), looks := false }, kinds := [], alts := [], laidByText := true, laidKinds := [.data, .pinned], laidTests := true, laidLooks := .later }
def DiskStampsUptoCardSaid : Prop := Claim7.holds Tryz.pinned (.plain (OpenSpec.upto diskStampsSpec)) diskStampsUptoCard

/-- THE SECOND FORM's CARD OF 'hawserlaw07.DiskOff'. -/
def diskOffUptoCard : Claim7 := { stood := { row := diskOffUptoRow, standIns := [], harness := (true, "b4d254cf3d86fb6037e7a1b2c707cf4e3a89face540c7cf6fb12849ab23d51c1"), looks := false }, kinds := [], alts := [], laidByText := true, laidKinds := [.data, .pinned], laidTests := true, laidLooks := .later }
def DiskOffUptoCardSaid : Prop := Claim7.holds Tryz.pinned (.plain (OpenSpec.upto diskOffSpec)) diskOffUptoCard
end Rows
end Go.Proofs.YtjkikkpbeceeeaaGreatDoor
