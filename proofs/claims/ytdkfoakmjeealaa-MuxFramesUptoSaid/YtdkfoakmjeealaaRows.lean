/-
  No cell of these rows narrows 'for every input' (looked for: loops, veiled, ifaces, maps, wideKeys, modest, calm, conditions, laid).
  DERIVED. THE GIVEN ROWS OF THIS SEAT. 3 by the template 'for every input the law returns true; each argument reads behind the call as it read before'; 0 by the template 'total and deterministic' (their statements: YtdkfoakmjeealaaTotals.lean).
  GIVEN WITH THE SEED: the statements are not yours to turn. If you find one false, say at which input.
  Laid BY PROGRAM, IN A SANDBOX (cutbox-rows.mjs): the forced cells as the released guide's own fill.sh prints them over the translation 50f99cf055159cfe… (all of the seat's roots in one cut). By AI agents, Wed Nov 11 2026. No macro, syntax, notation, axiom, sorry.
-/
import Derived.Test.YtdkfoakmjeealaaChecked
import GoSem.Claim
import GoSem.ClaimJoined
import GoSem.ClaimMapViews
import Derived.JoinedTies
import Derived.KernelRfl
namespace Go.Proofs.Ytdkfoakmjeealaa
/- THE CELL 'sum', in the pinned program and in every row, IS THE sha256 OF THE DUMP (.gsa) THAT YtdkfoakmjeealaaProg.lean LOADS. Nothing in Lean hashes anything: it is a label: what it is worth is what the hold of that sum in a sandbox is worth. -/
noncomputable def Try.pinned : Pinned := { name := "ytdkfoakmjeealaa", sum := "50f99cf055159cfe057b51bd583eb88aecb839f57396a46585cd6b858a25c398", checked := Try.checked }
namespace Rows
def none {H : Type} : Left H := { results := [], args := [] }

/-- 'hawserlaw16.MuxRuns': WHATEVER THE INPUT: true; the input reads as it did. -/
def muxRunsSpec : ChangeSpec := { name := "muxRuns", fn := fun _ => fun
  | [d1, d2, d3] => { results := [.lit (.bool true)], args := [d1, d2, d3] }
  | _ => none }
def muxRunsRow : OpenClaim := { program := "ytdkfoakmjeealaa", sum := "50f99cf055159cfe057b51bd583eb88aecb839f57396a46585cd6b858a25c398", func := "hawser/hawserlaw16.MuxRuns", spec := "muxRuns", apart := false }
def MuxRunsSaid : Prop := muxRunsRow.holds Try.pinned (OpenSpec.ofChange muxRunsSpec)

/-- ITS FALSE NEIGHBOUR: 'it returns false'. Refute it at one input. -/
def muxRunsWrong : ChangeSpec := { name := "muxRuns", fn := fun _ => fun
  | [d1, d2, d3] => { results := [.lit (.bool false)], args := [d1, d2, d3] }
  | _ => none }
def MuxRunsWrongFalsely : Prop := muxRunsRow.holds Try.pinned (OpenSpec.ofChange muxRunsWrong)

/-- 'hawserlaw16.MuxFrames': WHATEVER THE INPUT: true; the input reads as it did. -/
def muxFramesSpec : ChangeSpec := { name := "muxFrames", fn := fun _ => fun
  | [d1, d2] => { results := [.lit (.bool true)], args := [d1, d2] }
  | _ => none }
def muxFramesRow : OpenClaim := { program := "ytdkfoakmjeealaa", sum := "50f99cf055159cfe057b51bd583eb88aecb839f57396a46585cd6b858a25c398", func := "hawser/hawserlaw16.MuxFrames", spec := "muxFrames", inPlace := ["internal/abi.NoEscape", "internal/bytealg.MakeNoZero"], recurses := true, apart := false }
def MuxFramesSaid : Prop := muxFramesRow.holds Try.pinned (OpenSpec.ofChange muxFramesSpec)

/-- ITS FALSE NEIGHBOUR: 'it returns false'. Refute it at one input. -/
def muxFramesWrong : ChangeSpec := { name := "muxFrames", fn := fun _ => fun
  | [d1, d2] => { results := [.lit (.bool false)], args := [d1, d2] }
  | _ => none }
def MuxFramesWrongFalsely : Prop := muxFramesRow.holds Try.pinned (OpenSpec.ofChange muxFramesWrong)

/-- 'hawserlaw16.MuxWhole': WHATEVER THE INPUT: true; the input reads as it did. -/
def muxWholeSpec : ChangeSpec := { name := "muxWhole", fn := fun _ => fun
  | [d1, d2, d3] => { results := [.lit (.bool true)], args := [d1, d2, d3] }
  | _ => none }
def muxWholeRow : OpenClaim := { program := "ytdkfoakmjeealaa", sum := "50f99cf055159cfe057b51bd583eb88aecb839f57396a46585cd6b858a25c398", func := "hawser/hawserlaw16.MuxWhole", spec := "muxWhole", apart := false }
def MuxWholeSaid : Prop := muxWholeRow.holds Try.pinned (OpenSpec.ofChange muxWholeSpec)

/-- ITS FALSE NEIGHBOUR: 'it returns false'. Refute it at one input. -/
def muxWholeWrong : ChangeSpec := { name := "muxWhole", fn := fun _ => fun
  | [d1, d2, d3] => { results := [.lit (.bool false)], args := [d1, d2, d3] }
  | _ => none }
def MuxWholeWrongFalsely : Prop := muxWholeRow.holds Try.pinned (OpenSpec.ofChange muxWholeWrong)

/- THE SECOND FORM. 'bulk': how many values and letters a reading holds, each counted each time it is reached (what is shared counts as often as it is met; a slice's spare places count too). A statement '..UptoSaid' is the law's where the arguments, and the package variables that the reading takes, are together of bulk at most 1048576: NARROWER than '..Said'. Prove '..Said' where nothing that the law and all that it calls make is longer than what came in: it says more and counts as full. Else prove '..UptoSaid'. A law counts once. -/
mutual
def uptoBulk {H : Type} : DataW H → Nat
  | .lit (.string bytes) => bytes.length + 1
  | .lit _ => 1
  | .nil => 1
  | .ptr d => uptoBulk d + 1
  | .slice elems spare => uptoBulkAll elems + uptoBulkAll spare + 1
  | .agg parts => uptoBulkAll parts + 1
  | .iface _ d => uptoBulk d + 1
  | .map entries => uptoBulkEntries entries + 1
  | .held _ => 1
def uptoBulkAll {H : Type} : List (DataW H) → Nat
  | [] => 0
  | d :: r => uptoBulk d + uptoBulkAll r
def uptoBulkEntries {H : Type} : List (Lit × DataW H) → Nat
  | [] => 0
  | x :: r => uptoBulkEntry x + uptoBulkEntries r
def uptoBulkEntry {H : Type} : Lit × DataW H → Nat
  | (.string bytes, d) => bytes.length + uptoBulk d + 1
  | (_, d) => uptoBulk d + 1
 end
def uptoSmall : (H : Type) → List (DataW H) → Bool := fun _ ds => decide (uptoBulkAll ds ≤ 1048576)
def OpenSpec.upto (s : _root_.Go.ChangeSpec) : _root_.Go.OpenSpec := { _root_.Go.OpenSpec.ofChange s with cond := some uptoSmall }

/-- 'hawserlaw16.MuxRuns', WHERE WHAT IT READS IS OF BULK AT MOST 1048576: true; the input reads as it did. -/
def muxRunsUptoRow : OpenClaim := { program := "ytdkfoakmjeealaa", sum := "50f99cf055159cfe057b51bd583eb88aecb839f57396a46585cd6b858a25c398", func := "hawser/hawserlaw16.MuxRuns", spec := "muxRuns", apart := false, narrowed := true }
def MuxRunsUptoSaid : Prop := muxRunsUptoRow.holds Try.pinned (OpenSpec.upto muxRunsSpec)

/-- 'hawserlaw16.MuxFrames', WHERE WHAT IT READS IS OF BULK AT MOST 1048576: true; the input reads as it did. -/
def muxFramesUptoRow : OpenClaim := { program := "ytdkfoakmjeealaa", sum := "50f99cf055159cfe057b51bd583eb88aecb839f57396a46585cd6b858a25c398", func := "hawser/hawserlaw16.MuxFrames", spec := "muxFrames", inPlace := ["internal/abi.NoEscape", "internal/bytealg.MakeNoZero"], recurses := true, apart := false, narrowed := true }
def MuxFramesUptoSaid : Prop := muxFramesUptoRow.holds Try.pinned (OpenSpec.upto muxFramesSpec)

/-- 'hawserlaw16.MuxWhole', WHERE WHAT IT READS IS OF BULK AT MOST 1048576: true; the input reads as it did. -/
def muxWholeUptoRow : OpenClaim := { program := "ytdkfoakmjeealaa", sum := "50f99cf055159cfe057b51bd583eb88aecb839f57396a46585cd6b858a25c398", func := "hawser/hawserlaw16.MuxWhole", spec := "muxWhole", apart := false, narrowed := true }
def MuxWholeUptoSaid : Prop := muxWholeUptoRow.holds Try.pinned (OpenSpec.upto muxWholeSpec)

end Rows
end Go.Proofs.Ytdkfoakmjeealaa
