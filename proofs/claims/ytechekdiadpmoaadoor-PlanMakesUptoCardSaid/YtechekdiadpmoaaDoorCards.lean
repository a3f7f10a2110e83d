/-
  DERIVED. GIVEN WITH THE SEED: THE CARDS: each row of YtechekdiadpmoaaDoorRows.lean that lists a variable, with what it lists TIED to the program's text (the seventh form; the later family's looks); each row that meets fmt, with fmt's text TOLD by the authors' own Lean function (tested against real Go, not proved from fmt's source: count such statements apart). THE CARD IS WHAT COUNTS. Prove the row's statement (the work); the ties are given (YtechekdiadpmoaaDoorTie.lean); close each card by the builder's one call (the guide's Derived/Test/ToyasCard.lean, 'card_holds'). Laid BY PROGRAM, IN A SANDBOX (cutbox-door.mjs). By AI agents, Wed Nov 11 2026. No macro, syntax, notation, axiom, sorry.
-/
import Derived.Test.YtechekdiadpmoaaDoorRows
import GoSem.ClaimSeven
namespace Go.Proofs.YtechekdiadpmoaaDoor
namespace Rows

/-- THE TIED CARD OF 'hawserlaw12.ReconEven'. -/
def reconEvenCard : Claim7 := { stood := { row := reconEvenRow, standIns := [], harness := (true, "a1cc100cea2411f8209d089ab27660efd02da3652e0778634e18c577dd61380f"), looks := false }, kinds := [], alts := [], laidByText := true, laidKinds := [.data, .pinned], laidTests := true, laidLooks := .later }
def ReconEvenCardSaid : Prop := Claim7.holds Tryd.pinned (.plain (OpenSpec.ofChange reconEvenSpec)) reconEvenCard

/-- THE TIED CARD OF 'hawserlaw12.ReconSame'. -/
def reconSameCard : Claim7 := { stood := { row := reconSameRow, standIns := [], harness := (true, "a1cc100cea2411f8209d089ab27660efd02da3652e0778634e18c577dd61380f"), looks := false }, kinds := [], alts := [], laidByText := true, laidKinds := [.data, .pinned], laidTests := true, laidLooks := .later }
def ReconSameCardSaid : Prop := Claim7.holds Tryd.pinned (.plain (OpenSpec.ofChange reconSameSpec)) reconSameCard

/-- THE TIED CARD OF 'hawserlaw13.PlanMakes'. -/
def planMakesCard : Claim7 := { stood := { row := planMakesRow, standIns := [], harness := (true, "a1cc100cea2411f8209d089ab27660efd02da3652e0778634e18c577dd61380f"), looks := false }, kinds := [], alts := [], laidByText := true, laidKinds := [.data, .pinned], laidTests := true, laidLooks := .later }
def PlanMakesCardSaid : Prop := Claim7.holds Tryd.pinned (.plain (OpenSpec.ofChange planMakesSpec)) planMakesCard

/-- THE TIED CARD OF 'hawserlaw13.PlanNothing'. -/
def planNothingCard : Claim7 := { stood := { row := planNothingRow, standIns := [], harness := (true, "a1cc100cea2411f8209d089ab27660efd02da3652e0778634e18c577dd61380f"), looks := false }, kinds := [], alts := [], laidByText := true, laidKinds := [.data, .pinned], laidTests := true, laidLooks := .later }
def PlanNothingCardSaid : Prop := Claim7.holds Tryd.pinned (.plain (OpenSpec.ofChange planNothingSpec)) planNothingCard

/-- THE TIED CARD OF 'hawserlaw13.PlanChoices'. -/
def planChoicesCard : Claim7 := { stood := { row := planChoicesRow, standIns := [], harness := (true, "a1cc100cea2411f8209d089ab27660efd02da3652e0778634e18c577dd61380f"), looks := false }, kinds := [], alts := [], laidByText := true, laidKinds := [.data, .pinned], laidTests := true, laidLooks := .later }
def PlanChoicesCardSaid : Prop := Claim7.holds Tryd.pinned (.plain (OpenSpec.ofChange planChoicesSpec)) planChoicesCard

/-- THE TIED CARD OF 'hawserlaw13.PlanWays'. -/
def planWaysCard : Claim7 := { stood := { row := planWaysRow, standIns := [], harness := (true, "a1cc100cea2411f8209d089ab27660efd02da3652e0778634e18c577dd61380f"), looks := false }, kinds := [], alts := [], laidByText := true, laidKinds := [.data, .pinned], laidTests := true, laidLooks := .later }
def PlanWaysCardSaid : Prop := Claim7.holds Tryd.pinned (.plain (OpenSpec.ofChange planWaysSpec)) planWaysCard

/-- THE TIED CARD OF 'hawserlaw13.PlanMore'. -/
def planMoreCard : Claim7 := { stood := { row := planMoreRow, standIns := [], harness := (true, "a1cc100cea2411f8209d089ab27660efd02da3652e0778634e18c577dd61380f"), looks := false }, kinds := [], alts := [], laidByText := true, laidKinds := [.data, .pinned], laidTests := true, laidLooks := .later }
def PlanMoreCardSaid : Prop := Claim7.holds Tryd.pinned (.plain (OpenSpec.ofChange planMoreSpec)) planMoreCard

/-- THE SECOND FORM's CARD OF 'hawserlaw12.ReconEven'. -/
def reconEvenUptoCard : Claim7 := { stood := { row := reconEvenUptoRow, standIns := [], harness := (true, "a1cc100cea2411f8209d089ab27660efd02da3652e0778634e18c577dd61380f"), looks := false }, kinds := [], alts := [], laidByText := true, laidKinds := [.data, .pinned], laidTests := true, laidLooks := .later }
def ReconEvenUptoCardSaid : Prop := Claim7.holds Tryd.pinned (.plain (OpenSpec.upto reconEvenSpec)) reconEvenUptoCard

/-- THE SECOND FORM's CARD OF 'hawserlaw12.ReconSame'. -/
def reconSameUptoCard : Claim7 := { stood := { row := reconSameUptoRow, standIns := [], harness := (true, "a1cc100cea2411f8209d089ab27660efd02da3652e0778634e18c577dd61380f"), looks := false }, kinds := [], alts := [], laidByText := true, laidKinds := [.data, .pinned], laidTests := true, laidLooks := .later }
def ReconSameUptoCardSaid : Prop := Claim7.holds Tryd.pinned (.plain (OpenSpec.upto reconSameSpec)) reconSameUptoCard

/-- THE SECOND FORM's CARD OF 'hawserlaw13.PlanMakes'. -/
def planMakesUptoCard : Claim7 := { stood := { row := planMakesUptoRow, standIns := [], harness := (true, "a1cc100cea2411f8209d089ab27660efd02da3652e0778634e18c577dd61380f"), looks := false }, kinds := [], alts := [], laidByText := true, laidKinds := [.data, .pinned], laidTests := true, laidLooks := .later }
def PlanMakesUptoCardSaid : Prop := Claim7.holds Tryd.pinned (.plain (OpenSpec.upto planMakesSpec)) planMakesUptoCard

/-- THE SECOND FORM's CARD OF 'hawserlaw13.PlanNothing'. -/
def planNothingUptoCard : Claim7 := { stood := { row := planNothingUptoRow, standIns := [], harness := (true, "a1cc100cea2411f8209d089ab27660efd02da3652e0778634e18c577dd61380f"), looks := false }, kinds := [], alts := [], laidByText := true, laidKinds := [.data, .pinned], laidTests := true, laidLooks := .later }
def PlanNothingUptoCardSaid : Prop := Claim7.holds Tryd.pinned (.plain (OpenSpec.upto planNothingSpec)) planNothingUptoCard

/-- THE SECOND FORM's CARD OF 'hawserlaw13.PlanChoices'. -/
def planChoicesUptoCard : Claim7 := { stood := { row := planChoicesUptoRow, standIns := [], harness := (true, "a1cc100cea2411f8209d089ab27660efd02da3652e0778634e18c577dd61380f"), looks := false }, kinds := [], alts := [], laidByText := true, laidKinds := [.data, .pinned], laidTests := true, laidLooks := .later }
def PlanChoicesUptoCardSaid : Prop := Claim7.holds Tryd.pinned (.plain (OpenSpec.upto planChoicesSpec)) planChoicesUptoCard

/-- THE SECOND FORM's CARD OF 'hawserlaw13.PlanWays'. -/
def planWaysUptoCard : Claim7 := { stood := { row := planWaysUptoRow, standIns := [], harness := (true, "a1cc100cea2411f8209d089ab27660efd02da3652e0778634e18c577dd61380f"), looks := false }, kinds := [], alts := [], laidByText := true, laidKinds := [.data, .pinned], laidTests := true, laidLooks := .later }
def PlanWaysUptoCardSaid : Prop := Claim7.holds Tryd.pinned (.plain (OpenSpec.upto planWaysSpec)) planWaysUptoCard

/-- THE SECOND FORM's CARD OF 'hawserlaw13.PlanMore'. -/
def planMoreUptoCard : Claim7 := { stood := { row := planMoreUptoRow, standIns := [], harness := (true, "a1cc100cea2411f8209d089ab27660efd02da3652e0778634e18c577dd61380f"), looks := false }, kinds := [], alts := [], laidByText := true, laidKinds := [.data, .pinned], laidTests := true, laidLooks := .later }
def PlanMoreUptoCardSaid : Prop := Claim7.holds Tryd.pinned (.plain (OpenSpec.upto planMoreSpec)) planMoreUptoCard
end Rows
end Go.Proofs.YtechekdiadpmoaaDoor
