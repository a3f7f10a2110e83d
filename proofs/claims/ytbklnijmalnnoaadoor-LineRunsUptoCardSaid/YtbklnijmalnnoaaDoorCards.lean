/-
  DERIVED. GIVEN WITH THE SEED: THE CARDS: each row of YtbklnijmalnnoaaDoorRows.lean that lists a variable, with what it lists TIED to the program's text (the seventh form; the later family's looks); each row that meets fmt, with fmt's text TOLD by the authors' own Lean function (tested against real Go, not proved from fmt's source: count such statements apart). THE CARD IS WHAT COUNTS. Prove the row's statement (the work); the ties are given (YtbklnijmalnnoaaDoorTie.lean); close each card by the builder's one call (the guide's Derived/Test/ToyasCard.lean, 'card_holds'). Laid BY PROGRAM, IN A SANDBOX (cutbox-door.mjs). By AI agents, Wed Nov 11 2026. No macro, syntax, notation, axiom, sorry.
-/
import Derived.Test.YtbklnijmalnnoaaDoorRows
import GoSem.ClaimSeven
namespace Go.Proofs.YtbklnijmalnnoaaDoor
namespace Rows

/-- THE TIED CARD OF 'hawserlaw15.LineRuns'. -/
def lineRunsCard : Claim7 := { stood := { row := lineRunsRow, standIns := [], harness := (true, "fc67813005ac034bad6ac7b6a8d04e356f664d77cf0b2c8e60d212af2f854942"), looks := false }, kinds := [], alts := [], laidByText := true, laidKinds := [.data], laidTests := true, laidLooks := .later }
def LineRunsCardSaid : Prop := Claim7.holds Tryd.pinned (.plain (OpenSpec.ofChange lineRunsSpec)) lineRunsCard

/-- THE TIED CARD OF 'hawserlaw15.LinePrefix'. -/
def linePrefixCard : Claim7 := { stood := { row := linePrefixRow, standIns := [], harness := (true, "fc67813005ac034bad6ac7b6a8d04e356f664d77cf0b2c8e60d212af2f854942"), looks := false }, kinds := [], alts := [], laidByText := true, laidKinds := [.data], laidTests := true, laidLooks := .later }
def LinePrefixCardSaid : Prop := Claim7.holds Tryd.pinned (.plain (OpenSpec.ofChange linePrefixSpec)) linePrefixCard

/-- THE TIED CARD OF 'hawserlaw15.LineMore'. -/
def lineMoreCard : Claim7 := { stood := { row := lineMoreRow, standIns := [], harness := (true, "fc67813005ac034bad6ac7b6a8d04e356f664d77cf0b2c8e60d212af2f854942"), looks := false }, kinds := [], alts := [], laidByText := true, laidKinds := [.data], laidTests := true, laidLooks := .later }
def LineMoreCardSaid : Prop := Claim7.holds Tryd.pinned (.plain (OpenSpec.ofChange lineMoreSpec)) lineMoreCard

/-- THE SECOND FORM's CARD OF 'hawserlaw15.LineRuns'. -/
def lineRunsUptoCard : Claim7 := { stood := { row := lineRunsUptoRow, standIns := [], harness := (true, "fc67813005ac034bad6ac7b6a8d04e356f664d77cf0b2c8e60d212af2f854942"), looks := false }, kinds := [], alts := [], laidByText := true, laidKinds := [.data], laidTests := true, laidLooks := .later }
def LineRunsUptoCardSaid : Prop := Claim7.holds Tryd.pinned (.plain (OpenSpec.upto lineRunsSpec)) lineRunsUptoCard

/-- THE SECOND FORM's CARD OF 'hawserlaw15.LinePrefix'. -/
def linePrefixUptoCard : Claim7 := { stood := { row := linePrefixUptoRow, standIns := [], harness := (true, "fc67813005ac034bad6ac7b6a8d04e356f664d77cf0b2c8e60d212af2f854942"), looks := false }, kinds := [], alts := [], laidByText := true, laidKinds := [.data], laidTests := true, laidLooks := .later }
def LinePrefixUptoCardSaid : Prop := Claim7.holds Tryd.pinned (.plain (OpenSpec.upto linePrefixSpec)) linePrefixUptoCard

/-- THE SECOND FORM's CARD OF 'hawserlaw15.LineMore'. -/
def lineMoreUptoCard : Claim7 := { stood := { row := lineMoreUptoRow, standIns := [], harness := (true, "fc67813005ac034bad6ac7b6a8d04e356f664d77cf0b2c8e60d212af2f854942"), looks := false }, kinds := [], alts := [], laidByText := true, laidKinds := [.data], laidTests := true, laidLooks := .later }
def LineMoreUptoCardSaid : Prop := Claim7.holds Tryd.pinned (.plain (OpenSpec.upto lineMoreSpec)) lineMoreUptoCard
end Rows
end Go.Proofs.YtbklnijmalnnoaaDoor
