/-
  DERIVED. GIVEN WITH THE SEED: THE CARDS: each row of YtphblgpimphgiaaDoorRows.lean that lists a variable, with what it lists TIED to the program's text (the seventh form; the later family's looks); each row that meets fmt, with fmt's text TOLD by the authors' own Lean function (tested against real Go, not proved from fmt's source: count such statements apart). THE CARD IS WHAT COUNTS. Prove the row's statement (the work); the ties are given (YtphblgpimphgiaaDoorTie.lean); close each card by the builder's one call (the guide's Derived/Test/ToyasCard.lean, 'card_holds'). Laid BY PROGRAM, IN A SANDBOX (cutbox-door.mjs). By AI agents, Wed Nov 11 2026. No macro, syntax, notation, axiom, sorry.
-/
import Derived.Test.YtphblgpimphgiaaDoorRows
import GoSem.ClaimSeven
namespace Go.Proofs.YtphblgpimphgiaaDoor
namespace Rows

/-- THE TIED CARD OF 'hawserlaw04.HashSums'. -/
def hashSumsCard : Claim7 := { stood := { row := hashSumsRow, standIns := [], harness := (true, "bebda642f6f2cd5b64e7e84a7bd7c53e73e0ac2a7a9e7cc722a37570a0cbc99f"), looks := false }, kinds := [], alts := [], laidByText := true, laidKinds := [.data, .data, .data], laidTests := true, laidLooks := .later }
def HashSumsCardSaid : Prop := Claim7.holds Tryd.pinned (.plain (OpenSpec.ofChange hashSumsSpec)) hashSumsCard

/-- THE TIED CARD OF 'hawserlaw04.HashOthers'. -/
def hashOthersCard : Claim7 := { stood := { row := hashOthersRow, standIns := [], harness := (true, "bebda642f6f2cd5b64e7e84a7bd7c53e73e0ac2a7a9e7cc722a37570a0cbc99f"), looks := false }, kinds := [], alts := [], laidByText := true, laidKinds := [.data, .data, .data], laidTests := true, laidLooks := .later }
def HashOthersCardSaid : Prop := Claim7.holds Tryd.pinned (.plain (OpenSpec.ofChange hashOthersSpec)) hashOthersCard

/-- THE TIED CARD OF 'hawserlaw04.HashRolls'. -/
def hashRollsCard : Claim7 := { stood := { row := hashRollsRow, standIns := [], harness := (true, "bebda642f6f2cd5b64e7e84a7bd7c53e73e0ac2a7a9e7cc722a37570a0cbc99f"), looks := false }, kinds := [], alts := [], laidByText := true, laidKinds := [.data, .data, .data], laidTests := true, laidLooks := .later }
def HashRollsCardSaid : Prop := Claim7.holds Tryd.pinned (.plain (OpenSpec.ofChange hashRollsSpec)) hashRollsCard

/-- THE TIED CARD OF 'hawserlaw04.HashTurned'. -/
def hashTurnedCard : Claim7 := { stood := { row := hashTurnedRow, standIns := [], harness := (true, "bebda642f6f2cd5b64e7e84a7bd7c53e73e0ac2a7a9e7cc722a37570a0cbc99f"), looks := false }, kinds := [], alts := [], laidByText := true, laidKinds := [.data, .data, .data], laidTests := true, laidLooks := .later }
def HashTurnedCardSaid : Prop := Claim7.holds Tryd.pinned (.plain (OpenSpec.ofChange hashTurnedSpec)) hashTurnedCard

/-- THE TIED CARD OF 'hawserlaw04.HashSame'. -/
def hashSameCard : Claim7 := { stood := { row := hashSameRow, standIns := [], harness := (true, "bebda642f6f2cd5b64e7e84a7bd7c53e73e0ac2a7a9e7cc722a37570a0cbc99f"), looks := false }, kinds := [], alts := [], laidByText := true, laidKinds := [.data, .data, .data], laidTests := true, laidLooks := .later }
def HashSameCardSaid : Prop := Claim7.holds Tryd.pinned (.plain (OpenSpec.ofChange hashSameSpec)) hashSameCard

/-- THE SECOND FORM's CARD OF 'hawserlaw04.HashSums'. -/
def hashSumsUptoCard : Claim7 := { stood := { row := hashSumsUptoRow, standIns := [], harness := (true, "bebda642f6f2cd5b64e7e84a7bd7c53e73e0ac2a7a9e7cc722a37570a0cbc99f"), looks := false }, kinds := [], alts := [], laidByText := true, laidKinds := [.data, .data, .data], laidTests := true, laidLooks := .later }
def HashSumsUptoCardSaid : Prop := Claim7.holds Tryd.pinned (.plain (OpenSpec.upto hashSumsSpec)) hashSumsUptoCard

/-- THE SECOND FORM's CARD OF 'hawserlaw04.HashOthers'. -/
def hashOthersUptoCard : Claim7 := { stood := { row := hashOthersUptoRow, standIns := [], harness := (true, "bebda642f6f2cd5b64e7e84a7bd7c53e73e0ac2a7a9e7cc722a37570a0cbc99f"), looks := false }, kinds := [], alts := [], laidByText := true, laidKinds := [.data, .data, .data], laidTests := true, laidLooks := .later }
def HashOthersUptoCardSaid : Prop := Claim7.holds Tryd.pinned (.plain (OpenSpec.upto hashOthersSpec)) hashOthersUptoCard

/-- THE SECOND FORM's CARD OF 'hawserlaw04.HashRolls'. -/
def hashRollsUptoCard : Claim7 := { stood := { row := hashRollsUptoRow, standIns := [], harness := (true, "bebda642f6f2cd5b64e7e84a7bd7c53e73e0ac2a7a9e7cc722a37570a0cbc99f"), looks := false }, kinds := [], alts := [], laidByText := true, laidKinds := [.data, .data, .data], laidTests := true, laidLooks := .later }
def HashRollsUptoCardSaid : Prop := Claim7.holds Tryd.pinned (.plain (OpenSpec.upto hashRollsSpec)) hashRollsUptoCard

/-- THE SECOND FORM's CARD OF 'hawserlaw04.HashTurned'. -/
def hashTurnedUptoCard : Claim7 := { stood := { row := hashTurnedUptoRow, standIns := [], harness := (true, "bebda642f6f2cd5b64e7e84a7bd7c53e73e0ac2a7a9e7cc722a37570a0cbc99f"), looks := false }, kinds := [], alts := [], laidByText := true, laidKinds := [.data, .data, .data], laidTests := true, laidLooks := .later }
def HashTurnedUptoCardSaid : Prop := Claim7.holds Tryd.pinned (.plain (OpenSpec.upto hashTurnedSpec)) hashTurnedUptoCard

/-- THE SECOND FORM's CARD OF 'hawserlaw04.HashSame'. -/
def hashSameUptoCard : Claim7 := { stood := { row := hashSameUptoRow, standIns := [], harness := (true, "bebda642f6f2cd5b64e7e84a7bd7c53e73e0ac2a7a9e7cc722a37570a0cbc99f"), looks := false }, kinds := [], alts := [], laidByText := true, laidKinds := [.data, .data, .data], laidTests := true, laidLooks := .later }
def HashSameUptoCardSaid : Prop := Claim7.holds Tryd.pinned (.plain (OpenSpec.upto hashSameSpec)) hashSameUptoCard
end Rows
end Go.Proofs.YtphblgpimphgiaaDoor
