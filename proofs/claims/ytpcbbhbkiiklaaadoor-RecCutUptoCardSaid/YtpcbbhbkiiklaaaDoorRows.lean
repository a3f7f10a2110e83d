/-
  NARROWER THAN 'FOR EVERY INPUT', by the rows' own cells (each row's printed sentence says how): RecPacks: laid · RecReads: laid · RecBack: laid · RecTurned: laid · RecCut: laid.
  DERIVED. THE GIVEN ROWS OF THIS SEAT. 5 by the template 'for every input the law returns true; each argument reads behind the call as it read before'; 0 by the template 'total and deterministic' (their statements: YtpcbbhbkiiklaaaDoorTotals.lean).
  GIVEN WITH THE SEED: the statements are not yours to turn. If you find one false, say at which input.
  Laid BY PROGRAM, IN A SANDBOX (cutbox-rows.mjs): the forced cells as the released guide's own fill.sh prints them over the translation 4818affaf7628353… (all of the seat's roots in one cut). By AI agents, Wed Nov 11 2026. No macro, syntax, notation, axiom, sorry.
-/
import Derived.Test.YtpcbbhbkiiklaaaDoorChecked
import GoSem.Claim
import GoSem.ClaimJoined
import GoSem.ClaimMapViews
import Derived.JoinedTies
import Derived.KernelRfl
namespace Go.Proofs.YtpcbbhbkiiklaaaDoor
/- THE CELL 'sum', in the pinned program and in every row, IS THE sha256 OF THE DUMP (.gsa) THAT YtpcbbhbkiiklaaaDoorProg.lean LOADS. Nothing in Lean hashes anything: it is a label: what it is worth is what the hold of that sum in a sandbox is worth. -/
noncomputable def Tryd.pinned : Pinned := { name := "ytpcbbhbkiiklaaadoor", sum := "4818affaf76283534ca46f6917f910c335e04837a1c4978652685935be3576c8", checked := Tryd.checked }
namespace Rows
def none {H : Type} : Left H := { results := [], args := [] }

/- WHAT THE LISTED PACKAGE-LEVEL VARIABLES READ AS WHEN THE CALL BEGINS. Each datum BY PROGRAM (the guide's laid-datum.mjs) off the statement by which the dump's own 'gosem.cut.vars' lays the variable. In a bare row this is a premise. The card (YtpcbbhbkiiklaaaDoorCards.lean) ties it to the program's text. -/
def laid_hawser_hash_checks {H : Type} : DataW H := .agg [.lit (.int .u32 0), .lit (.int .u32 498536548), .lit (.int .u32 997073096), .lit (.int .u32 651767980), .lit (.int .u32 1994146192), .lit (.int .u32 1802195444), .lit (.int .u32 1303535960), .lit (.int .u32 1342533948), .lit (.int .u32 3988292384), .lit (.int .u32 4027552580), .lit (.int .u32 3604390888), .lit (.int .u32 3412177804), .lit (.int .u32 2607071920), .lit (.int .u32 2262029012), .lit (.int .u32 2685067896), .lit (.int .u32 3183342108)]

/-- 'hawserlaw05.RecPacks': WHATEVER THE INPUT: true; the input reads as it did. -/
def recPacksSpec : ChangeSpec := { name := "recPacks", fn := fun _ => fun
  | [d] => { results := [.lit (.bool true)], args := [d] }
  | _ => none }
def recPacksRow : OpenClaim := { program := "ytpcbbhbkiiklaaadoor", sum := "4818affaf76283534ca46f6917f910c335e04837a1c4978652685935be3576c8", func := "hawser/hawserlaw05.RecPacks", spec := "recPacks", inPlace := ["internal/abi.NoEscape"], named := ["hawser/hash.checks"], apart := false, laid := [("hawser/hash.checks", laid_hawser_hash_checks)] }
def RecPacksSaid : Prop := recPacksRow.holds Tryd.pinned (OpenSpec.ofChange recPacksSpec)

/-- ITS FALSE NEIGHBOUR: 'it returns false'. Refute it at one input. -/
def recPacksWrong : ChangeSpec := { name := "recPacks", fn := fun _ => fun
  | [d] => { results := [.lit (.bool false)], args := [d] }
  | _ => none }
def RecPacksWrongFalsely : Prop := recPacksRow.holds Tryd.pinned (OpenSpec.ofChange recPacksWrong)

/-- 'hawserlaw05.RecReads': WHATEVER THE INPUT: true; the input reads as it did. -/
def recReadsSpec : ChangeSpec := { name := "recReads", fn := fun _ => fun
  | [d] => { results := [.lit (.bool true)], args := [d] }
  | _ => none }
def recReadsRow : OpenClaim := { program := "ytpcbbhbkiiklaaadoor", sum := "4818affaf76283534ca46f6917f910c335e04837a1c4978652685935be3576c8", func := "hawser/hawserlaw05.RecReads", spec := "recReads", named := ["hawser/hash.checks"], apart := false, laid := [("hawser/hash.checks", laid_hawser_hash_checks)] }
def RecReadsSaid : Prop := recReadsRow.holds Tryd.pinned (OpenSpec.ofChange recReadsSpec)

/-- ITS FALSE NEIGHBOUR: 'it returns false'. Refute it at one input. -/
def recReadsWrong : ChangeSpec := { name := "recReads", fn := fun _ => fun
  | [d] => { results := [.lit (.bool false)], args := [d] }
  | _ => none }
def RecReadsWrongFalsely : Prop := recReadsRow.holds Tryd.pinned (OpenSpec.ofChange recReadsWrong)

/-- 'hawserlaw05.RecBack': WHATEVER THE INPUT: true; the input reads as it did. -/
def recBackSpec : ChangeSpec := { name := "recBack", fn := fun _ => fun
  | [d1, d2] => { results := [.lit (.bool true)], args := [d1, d2] }
  | _ => none }
def recBackRow : OpenClaim := { program := "ytpcbbhbkiiklaaadoor", sum := "4818affaf76283534ca46f6917f910c335e04837a1c4978652685935be3576c8", func := "hawser/hawserlaw05.RecBack", spec := "recBack", inPlace := ["internal/abi.NoEscape"], named := ["hawser/hash.checks"], apart := false, laid := [("hawser/hash.checks", laid_hawser_hash_checks)] }
def RecBackSaid : Prop := recBackRow.holds Tryd.pinned (OpenSpec.ofChange recBackSpec)

/-- ITS FALSE NEIGHBOUR: 'it returns false'. Refute it at one input. -/
def recBackWrong : ChangeSpec := { name := "recBack", fn := fun _ => fun
  | [d1, d2] => { results := [.lit (.bool false)], args := [d1, d2] }
  | _ => none }
def RecBackWrongFalsely : Prop := recBackRow.holds Tryd.pinned (OpenSpec.ofChange recBackWrong)

/-- 'hawserlaw05.RecTurned': WHATEVER THE INPUT: true; the input reads as it did. -/
def recTurnedSpec : ChangeSpec := { name := "recTurned", fn := fun _ => fun
  | [d1, d2, d3] => { results := [.lit (.bool true)], args := [d1, d2, d3] }
  | _ => none }
def recTurnedRow : OpenClaim := { program := "ytpcbbhbkiiklaaadoor", sum := "4818affaf76283534ca46f6917f910c335e04837a1c4978652685935be3576c8", func := "hawser/hawserlaw05.RecTurned", spec := "recTurned", named := ["hawser/hash.checks"], apart := false, laid := [("hawser/hash.checks", laid_hawser_hash_checks)] }
def RecTurnedSaid : Prop := recTurnedRow.holds Tryd.pinned (OpenSpec.ofChange recTurnedSpec)

/-- ITS FALSE NEIGHBOUR: 'it returns false'. Refute it at one input. -/
def recTurnedWrong : ChangeSpec := { name := "recTurned", fn := fun _ => fun
  | [d1, d2, d3] => { results := [.lit (.bool false)], args := [d1, d2, d3] }
  | _ => none }
def RecTurnedWrongFalsely : Prop := recTurnedRow.holds Tryd.pinned (OpenSpec.ofChange recTurnedWrong)

/-- 'hawserlaw05.RecCut': WHATEVER THE INPUT: true; the input reads as it did. -/
def recCutSpec : ChangeSpec := { name := "recCut", fn := fun _ => fun
  | [d1, d2] => { results := [.lit (.bool true)], args := [d1, d2] }
  | _ => none }
def recCutRow : OpenClaim := { program := "ytpcbbhbkiiklaaadoor", sum := "4818affaf76283534ca46f6917f910c335e04837a1c4978652685935be3576c8", func := "hawser/hawserlaw05.RecCut", spec := "recCut", inPlace := ["internal/abi.NoEscape"], named := ["hawser/hash.checks"], apart := false, laid := [("hawser/hash.checks", laid_hawser_hash_checks)] }
def RecCutSaid : Prop := recCutRow.holds Tryd.pinned (OpenSpec.ofChange recCutSpec)

/-- ITS FALSE NEIGHBOUR: 'it returns false'. Refute it at one input. -/
def recCutWrong : ChangeSpec := { name := "recCut", fn := fun _ => fun
  | [d1, d2] => { results := [.lit (.bool false)], args := [d1, d2] }
  | _ => none }
def RecCutWrongFalsely : Prop := recCutRow.holds Tryd.pinned (OpenSpec.ofChange recCutWrong)

/- THE SECOND FORM. 'bulk': how many values and letters a reading holds, each counted each time it is reached (what is shared counts as often as it is met; a slice's spare places count too). A statement '..UptoSaid' is the law's where the arguments, and the package variables that the reading takes, are together of bulk at most 1048576: NARROWER than '..Said'. Prove '..Said' where nothing that the law and all that it calls make is longer than what came in: it says more and counts as full. Else prove '..UptoSaid'. A law counts once. -/
mutual
def uptoBulk {H : Type} : DataW H → Nat
  | .lit (.string bytes) => bytes.length + 1
  | .lit _ => 1
  | .nil => 1
  | .ptr d => uptoBulk d + 1
  | .slice elems spare => uptoBulkAll elems + uptoBulkAll spare + 1
  | .agg parts => uptoBulkAll parts + 1
  | .iface _ d => uptoBulk d + 1
  | .map entries => uptoBulkEntries entries + 1
  | .held _ => 1
def uptoBulkAll {H : Type} : List (DataW H) → Nat
  | [] => 0
  | d :: r => uptoBulk d + uptoBulkAll r
def uptoBulkEntries {H : Type} : List (Lit × DataW H) → Nat
  | [] => 0
  | x :: r => uptoBulkEntry x + uptoBulkEntries r
def uptoBulkEntry {H : Type} : Lit × DataW H → Nat
  | (.string bytes, d) => bytes.length + uptoBulk d + 1
  | (_, d) => uptoBulk d + 1
 end
def uptoSmall : (H : Type) → List (DataW H) → Bool := fun _ ds => decide (uptoBulkAll ds ≤ 1048576)
def OpenSpec.upto (s : _root_.Go.ChangeSpec) : _root_.Go.OpenSpec := { _root_.Go.OpenSpec.ofChange s with cond := some uptoSmall }

/-- 'hawserlaw05.RecPacks', WHERE WHAT IT READS IS OF BULK AT MOST 1048576: true; the input reads as it did. -/
def recPacksUptoRow : OpenClaim := { program := "ytpcbbhbkiiklaaadoor", sum := "4818affaf76283534ca46f6917f910c335e04837a1c4978652685935be3576c8", func := "hawser/hawserlaw05.RecPacks", spec := "recPacks", inPlace := ["internal/abi.NoEscape"], named := ["hawser/hash.checks"], apart := false, laid := [("hawser/hash.checks", laid_hawser_hash_checks)], narrowed := true }
def RecPacksUptoSaid : Prop := recPacksUptoRow.holds Tryd.pinned (OpenSpec.upto recPacksSpec)

/-- 'hawserlaw05.RecReads', WHERE WHAT IT READS IS OF BULK AT MOST 1048576: true; the input reads as it did. -/
def recReadsUptoRow : OpenClaim := { program := "ytpcbbhbkiiklaaadoor", sum := "4818affaf76283534ca46f6917f910c335e04837a1c4978652685935be3576c8", func := "hawser/hawserlaw05.RecReads", spec := "recReads", named := ["hawser/hash.checks"], apart := false, laid := [("hawser/hash.checks", laid_hawser_hash_checks)], narrowed := true }
def RecReadsUptoSaid : Prop := recReadsUptoRow.holds Tryd.pinned (OpenSpec.upto recReadsSpec)

/-- 'hawserlaw05.RecBack', WHERE WHAT IT READS IS OF BULK AT MOST 1048576: true; the input reads as it did. -/
def recBackUptoRow : OpenClaim := { program := "ytpcbbhbkiiklaaadoor", sum := "4818affaf76283534ca46f6917f910c335e04837a1c4978652685935be3576c8", func := "hawser/hawserlaw05.RecBack", spec := "recBack", inPlace := ["internal/abi.NoEscape"], named := ["hawser/hash.checks"], apart := false, laid := [("hawser/hash.checks", laid_hawser_hash_checks)], narrowed := true }
def RecBackUptoSaid : Prop := recBackUptoRow.holds Tryd.pinned (OpenSpec.upto recBackSpec)

/-- 'hawserlaw05.RecTurned', WHERE WHAT IT READS IS OF BULK AT MOST 1048576: true; the input reads as it did. -/
def recTurnedUptoRow : OpenClaim := { program := "ytpcbbhbkiiklaaadoor", sum := "4818affaf76283534ca46f6917f910c335e04837a1c4978652685935be3576c8", func := "hawser/hawserlaw05.RecTurned", spec := "recTurned", named := ["hawser/hash.checks"], apart := false, laid := [("hawser/hash.checks", laid_hawser_hash_checks)], narrowed := true }
def RecTurnedUptoSaid : Prop := recTurnedUptoRow.holds Tryd.pinned (OpenSpec.upto recTurnedSpec)

/-- 'hawserlaw05.RecCut', WHERE WHAT IT READS IS OF BULK AT MOST 1048576: true; the input reads as it did. -/
def recCutUptoRow : OpenClaim := { program := "ytpcbbhbkiiklaaadoor", sum := "4818affaf76283534ca46f6917f910c335e04837a1c4978652685935be3576c8", func := "hawser/hawserlaw05.RecCut", spec := "recCut", inPlace := ["internal/abi.NoEscape"], named := ["hawser/hash.checks"], apart := false, laid := [("hawser/hash.checks", laid_hawser_hash_checks)], narrowed := true }
def RecCutUptoSaid : Prop := recCutUptoRow.holds Tryd.pinned (OpenSpec.upto recCutSpec)

end Rows
end Go.Proofs.YtpcbbhbkiiklaaaDoor
