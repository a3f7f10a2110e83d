/-
  DERIVED. GIVEN WITH THE SEED: THE CARDS: each row of YtkfddnkeoopfbaaDoorRows.lean that lists a variable, with what it lists TIED to the program's text (the seventh form; the later family's looks); each row that meets fmt, with fmt's text TOLD by the authors' own Lean function (tested against real Go, not proved from fmt's source: count such statements apart). THE CARD IS WHAT COUNTS. Prove the row's statement (the work); the ties are given (YtkfddnkeoopfbaaDoorTie.lean); close each card by the builder's one call (the guide's Derived/Test/ToyasCard.lean, 'card_holds'). Laid BY PROGRAM, IN A SANDBOX (cutbox-door.mjs). By AI agents, Wed Nov 11 2026. No macro, syntax, notation, axiom, sorry.
-/
import Derived.Test.YtkfddnkeoopfbaaDoorRows
import GoSem.ClaimSeven
namespace Go.Proofs.YtkfddnkeoopfbaaDoor
namespace Rows

/-- THE TIED CARD OF 'hawserlaw02.GlobMatches'. -/
def globMatchesCard : Claim7 := { stood := { row := globMatchesRow, standIns := [], harness := (true, "c52cf260bd4c4e33b7daa7127319eef67df8e3ab26fef77bdc25d3d5da3f5832"), looks := false }, kinds := [], alts := [], laidByText := true, laidKinds := [.data, .pinned], laidTests := true, laidLooks := .later }
def GlobMatchesCardSaid : Prop := Claim7.holds Tryd.pinned (.plain (OpenSpec.ofChange globMatchesSpec)) globMatchesCard

/-- THE TIED CARD OF 'hawserlaw02.GlobRules'. -/
def globRulesCard : Claim7 := { stood := { row := globRulesRow, standIns := [], harness := (true, "c52cf260bd4c4e33b7daa7127319eef67df8e3ab26fef77bdc25d3d5da3f5832"), looks := false }, kinds := [], alts := [], laidByText := true, laidKinds := [.data, .pinned], laidTests := true, laidLooks := .later }
def GlobRulesCardSaid : Prop := Claim7.holds Tryd.pinned (.plain (OpenSpec.ofChange globRulesSpec)) globRulesCard

/-- THE SECOND FORM's CARD OF 'hawserlaw02.GlobMatches'. -/
def globMatchesUptoCard : Claim7 := { stood := { row := globMatchesUptoRow, standIns := [], harness := (true, "c52cf260bd4c4e33b7daa7127319eef67df8e3ab26fef77bdc25d3d5da3f5832"), looks := false }, kinds := [], alts := [], laidByText := true, laidKinds := [.data, .pinned], laidTests := true, laidLooks := .later }
def GlobMatchesUptoCardSaid : Prop := Claim7.holds Tryd.pinned (.plain (OpenSpec.upto globMatchesSpec)) globMatchesUptoCard

/-- THE SECOND FORM's CARD OF 'hawserlaw02.GlobRules'. -/
def globRulesUptoCard : Claim7 := { stood := { row := globRulesUptoRow, standIns := [], harness := (true, "c52cf260bd4c4e33b7daa7127319eef67df8e3ab26fef77bdc25d3d5da3f5832"), looks := false }, kinds := [], alts := [], laidByText := true, laidKinds := [.data, .pinned], laidTests := true, laidLooks := .later }
def GlobRulesUptoCardSaid : Prop := Claim7.holds Tryd.pinned (.plain (OpenSpec.upto globRulesSpec)) globRulesUptoCard
end Rows
end Go.Proofs.YtkfddnkeoopfbaaDoor
