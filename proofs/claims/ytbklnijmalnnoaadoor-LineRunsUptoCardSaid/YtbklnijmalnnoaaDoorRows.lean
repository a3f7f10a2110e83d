/-
  NARROWER THAN 'FOR EVERY INPUT', by the rows' own cells (each row's printed sentence says how): LineRuns: laid · LinePrefix: laid · LineMore: laid.
  DERIVED. THE GIVEN ROWS OF THIS SEAT. 3 by the template 'for every input the law returns true; each argument reads behind the call as it read before'; 0 by the template 'total and deterministic' (their statements: YtbklnijmalnnoaaDoorTotals.lean).
  GIVEN WITH THE SEED: the statements are not yours to turn. If you find one false, say at which input.
  Laid BY PROGRAM, IN A SANDBOX (cutbox-rows.mjs): the forced cells as the released guide's own fill.sh prints them over the translation b1e2ed99fac65322… (all of the seat's roots in one cut). By AI agents, Wed Nov 11 2026. No macro, syntax, notation, axiom, sorry.
-/
import Derived.Test.YtbklnijmalnnoaaDoorChecked
import GoSem.Claim
import GoSem.ClaimJoined
import GoSem.ClaimMapViews
import Derived.JoinedTies
import Derived.KernelRfl
namespace Go.Proofs.YtbklnijmalnnoaaDoor
/- THE CELL 'sum', in the pinned program and in every row, IS THE sha256 OF THE DUMP (.gsa) THAT YtbklnijmalnnoaaDoorProg.lean LOADS. Nothing in Lean hashes anything: it is a label: what it is worth is what the hold of that sum in a sandbox is worth. -/
noncomputable def Tryd.pinned : Pinned := { name := "ytbklnijmalnnoaadoor", sum := "b1e2ed99fac6532272c268d1970b9d7f9cc812d452df4bb80f3bc36aec691c27", checked := Tryd.checked }
namespace Rows
def none {H : Type} : Left H := { results := [], args := [] }

/- WHAT THE LISTED PACKAGE-LEVEL VARIABLES READ AS WHEN THE CALL BEGINS. Each datum BY PROGRAM (the guide's laid-datum.mjs) off the statement by which the dump's own 'gosem.cut.vars' lays the variable. In a bare row this is a premise. The card (YtbklnijmalnnoaaDoorCards.lean) ties it to the program's text. -/
def laid_hawser_hash_checks {H : Type} : DataW H := .agg [.lit (.int .u32 0), .lit (.int .u32 498536548), .lit (.int .u32 997073096), .lit (.int .u32 651767980), .lit (.int .u32 1994146192), .lit (.int .u32 1802195444), .lit (.int .u32 1303535960), .lit (.int .u32 1342533948), .lit (.int .u32 3988292384), .lit (.int .u32 4027552580), .lit (.int .u32 3604390888), .lit (.int .u32 3412177804), .lit (.int .u32 2607071920), .lit (.int .u32 2262029012), .lit (.int .u32 2685067896), .lit (.int .u32 3183342108)]

/-- 'hawserlaw15.LineRuns': WHATEVER THE INPUT: true; the input reads as it did. -/
def lineRunsSpec : ChangeSpec := { name := "lineRuns", fn := fun _ => fun
  | [d1, d2, d3] => { results := [.lit (.bool true)], args := [d1, d2, d3] }
  | _ => none }
def lineRunsRow : OpenClaim := { program := "ytbklnijmalnnoaadoor", sum := "b1e2ed99fac6532272c268d1970b9d7f9cc812d452df4bb80f3bc36aec691c27", func := "hawser/hawserlaw15.LineRuns", spec := "lineRuns", inPlace := ["internal/abi.NoEscape"], unfollowed := true, recurses := true, named := ["hawser/hash.checks"], apart := false, laid := [("hawser/hash.checks", laid_hawser_hash_checks)] }
def LineRunsSaid : Prop := lineRunsRow.holds Tryd.pinned (OpenSpec.ofChange lineRunsSpec)

/-- ITS FALSE NEIGHBOUR: 'it returns false'. Refute it at one input. -/
def lineRunsWrong : ChangeSpec := { name := "lineRuns", fn := fun _ => fun
  | [d1, d2, d3] => { results := [.lit (.bool false)], args := [d1, d2, d3] }
  | _ => none }
def LineRunsWrongFalsely : Prop := lineRunsRow.holds Tryd.pinned (OpenSpec.ofChange lineRunsWrong)

/-- 'hawserlaw15.LinePrefix': WHATEVER THE INPUT: true; the input reads as it did. -/
def linePrefixSpec : ChangeSpec := { name := "linePrefix", fn := fun _ => fun
  | [d1, d2] => { results := [.lit (.bool true)], args := [d1, d2] }
  | _ => none }
def linePrefixRow : OpenClaim := { program := "ytbklnijmalnnoaadoor", sum := "b1e2ed99fac6532272c268d1970b9d7f9cc812d452df4bb80f3bc36aec691c27", func := "hawser/hawserlaw15.LinePrefix", spec := "linePrefix", inPlace := ["internal/abi.NoEscape"], unfollowed := true, recurses := true, named := ["hawser/hash.checks"], apart := false, laid := [("hawser/hash.checks", laid_hawser_hash_checks)] }
def LinePrefixSaid : Prop := linePrefixRow.holds Tryd.pinned (OpenSpec.ofChange linePrefixSpec)

/-- ITS FALSE NEIGHBOUR: 'it returns false'. Refute it at one input. -/
def linePrefixWrong : ChangeSpec := { name := "linePrefix", fn := fun _ => fun
  | [d1, d2] => { results := [.lit (.bool false)], args := [d1, d2] }
  | _ => none }
def LinePrefixWrongFalsely : Prop := linePrefixRow.holds Tryd.pinned (OpenSpec.ofChange linePrefixWrong)

/-- 'hawserlaw15.LineMore': WHATEVER THE INPUT: true; the input reads as it did. -/
def lineMoreSpec : ChangeSpec := { name := "lineMore", fn := fun _ => fun
  | [d1, d2, d3] => { results := [.lit (.bool true)], args := [d1, d2, d3] }
  | _ => none }
def lineMoreRow : OpenClaim := { program := "ytbklnijmalnnoaadoor", sum := "b1e2ed99fac6532272c268d1970b9d7f9cc812d452df4bb80f3bc36aec691c27", func := "hawser/hawserlaw15.LineMore", spec := "lineMore", inPlace := ["internal/abi.NoEscape"], unfollowed := true, recurses := true, named := ["hawser/hash.checks"], apart := false, laid := [("hawser/hash.checks", laid_hawser_hash_checks)] }
def LineMoreSaid : Prop := lineMoreRow.holds Tryd.pinned (OpenSpec.ofChange lineMoreSpec)

/-- ITS FALSE NEIGHBOUR: 'it returns false'. Refute it at one input. -/
def lineMoreWrong : ChangeSpec := { name := "lineMore", fn := fun _ => fun
  | [d1, d2, d3] => { results := [.lit (.bool false)], args := [d1, d2, d3] }
  | _ => none }
def LineMoreWrongFalsely : Prop := lineMoreRow.holds Tryd.pinned (OpenSpec.ofChange lineMoreWrong)

/- THE SECOND FORM. 'bulk': how many values and letters a reading holds, each counted each time it is reached (what is shared counts as often as it is met; a slice's spare places count too). A statement '..UptoSaid' is the law's where the arguments, and the package variables that the reading takes, are together of bulk at most 1048576: NARROWER than '..Said'. Prove '..Said' where nothing that the law and all that it calls make is longer than what came in: it says more and counts as full. Else prove '..UptoSaid'. A law counts once. -/
mutual
def uptoBulk {H : Type} : DataW H → Nat
  | .lit (.string bytes) => bytes.length + 1
  | .lit _ => 1
  | .nil => 1
  | .ptr d => uptoBulk d + 1
  | .slice elems spare => uptoBulkAll elems + uptoBulkAll spare + 1
  | .agg parts => uptoBulkAll parts + 1
  | .iface _ d => uptoBulk d + 1
  | .map entries => uptoBulkEntries entries + 1
  | .held _ => 1
def uptoBulkAll {H : Type} : List (DataW H) → Nat
  | [] => 0
  | d :: r => uptoBulk d + uptoBulkAll r
def uptoBulkEntries {H : Type} : List (Lit × DataW H) → Nat
  | [] => 0
  | x :: r => uptoBulkEntry x + uptoBulkEntries r
def uptoBulkEntry {H : Type} : Lit × DataW H → Nat
  | (.string bytes, d) => bytes.length + uptoBulk d + 1
  | (_, d) => uptoBulk d + 1
 end
def uptoSmall : (H : Type) → List (DataW H) → Bool := fun _ ds => decide (uptoBulkAll ds ≤ 1048576)
def OpenSpec.upto (s : _root_.Go.ChangeSpec) : _root_.Go.OpenSpec := { _root_.Go.OpenSpec.ofChange s with cond := some uptoSmall }

/-- 'hawserlaw15.LineRuns', WHERE WHAT IT READS IS OF BULK AT MOST 1048576: true; the input reads as it did. -/
def lineRunsUptoRow : OpenClaim := { program := "ytbklnijmalnnoaadoor", sum := "b1e2ed99fac6532272c268d1970b9d7f9cc812d452df4bb80f3bc36aec691c27", func := "hawser/hawserlaw15.LineRuns", spec := "lineRuns", inPlace := ["internal/abi.NoEscape"], unfollowed := true, recurses := true, named := ["hawser/hash.checks"], apart := false, laid := [("hawser/hash.checks", laid_hawser_hash_checks)], narrowed := true }
def LineRunsUptoSaid : Prop := lineRunsUptoRow.holds Tryd.pinned (OpenSpec.upto lineRunsSpec)

/-- 'hawserlaw15.LinePrefix', WHERE WHAT IT READS IS OF BULK AT MOST 1048576: true; the input reads as it did. -/
def linePrefixUptoRow : OpenClaim := { program := "ytbklnijmalnnoaadoor", sum := "b1e2ed99fac6532272c268d1970b9d7f9cc812d452df4bb80f3bc36aec691c27", func := "hawser/hawserlaw15.LinePrefix", spec := "linePrefix", inPlace := ["internal/abi.NoEscape"], unfollowed := true, recurses := true, named := ["hawser/hash.checks"], apart := false, laid := [("hawser/hash.checks", laid_hawser_hash_checks)], narrowed := true }
def LinePrefixUptoSaid : Prop := linePrefixUptoRow.holds Tryd.pinned (OpenSpec.upto linePrefixSpec)

/-- 'hawserlaw15.LineMore', WHERE WHAT IT READS IS OF BULK AT MOST 1048576: true; the input reads as it did. -/
def lineMoreUptoRow : OpenClaim := { program := "ytbklnijmalnnoaadoor", sum := "b1e2ed99fac6532272c268d1970b9d7f9cc812d452df4bb80f3bc36aec691c27", func := "hawser/hawserlaw15.LineMore", spec := "lineMore", inPlace := ["internal/abi.NoEscape"], unfollowed := true, recurses := true, named := ["hawser/hash.checks"], apart := false, laid := [("hawser/hash.checks", laid_hawser_hash_checks)], narrowed := true }
def LineMoreUptoSaid : Prop := lineMoreUptoRow.holds Tryd.pinned (OpenSpec.upto lineMoreSpec)

end Rows
end Go.Proofs.YtbklnijmalnnoaaDoor
