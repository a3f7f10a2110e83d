/-
  NARROWER THAN 'FOR EVERY INPUT', by the rows' own cells (each row's printed sentence says how): HashSums: laid · HashOthers: laid · HashRolls: laid · HashTurned: laid · HashSame: laid.
  DERIVED. THE GIVEN ROWS OF THIS SEAT. 5 by the template 'for every input the law returns true; each argument reads behind the call as it read before'; 0 by the template 'total and deterministic' (their statements: YtphblgpimphgiaaDoorTotals.lean).
  GIVEN WITH THE SEED: the statements are not yours to turn. If you find one false, say at which input.
  Laid BY PROGRAM, IN A SANDBOX (cutbox-rows.mjs): the forced cells as the released guide's own fill.sh prints them over the translation 9164387408d9caf7… (all of the seat's roots in one cut). By AI agents, Wed Nov 11 2026. No macro, syntax, notation, axiom, sorry.
-/
import Derived.Test.YtphblgpimphgiaaDoorChecked
import GoSem.Claim
import GoSem.ClaimJoined
import GoSem.ClaimMapViews
import Derived.JoinedTies
import Derived.KernelRfl
namespace Go.Proofs.YtphblgpimphgiaaDoor
/- THE CELL 'sum', in the pinned program and in every row, IS THE sha256 OF THE DUMP (.gsa) THAT YtphblgpimphgiaaDoorProg.lean LOADS. Nothing in Lean hashes anything: it is a label: what it is worth is what the hold of that sum in a sandbox is worth. -/
noncomputable def Tryd.pinned : Pinned := { name := "ytphblgpimphgiaadoor", sum := "9164387408d9caf799c44d860fe52face72d8707da2ce4423cc1b4a49d27f392", checked := Tryd.checked }
namespace Rows
def none {H : Type} : Left H := { results := [], args := [] }

/- WHAT THE LISTED PACKAGE-LEVEL VARIABLES READ AS WHEN THE CALL BEGINS. Each datum BY PROGRAM (the guide's laid-datum.mjs) off the statement by which the dump's own 'gosem.cut.vars' lays the variable. In a bare row this is a premise. The card (YtphblgpimphgiaaDoorCards.lean) ties it to the program's text. -/
def laid_hawser_hash_checks {H : Type} : DataW H := .agg [.lit (.int .u32 0), .lit (.int .u32 498536548), .lit (.int .u32 997073096), .lit (.int .u32 651767980), .lit (.int .u32 1994146192), .lit (.int .u32 1802195444), .lit (.int .u32 1303535960), .lit (.int .u32 1342533948), .lit (.int .u32 3988292384), .lit (.int .u32 4027552580), .lit (.int .u32 3604390888), .lit (.int .u32 3412177804), .lit (.int .u32 2607071920), .lit (.int .u32 2262029012), .lit (.int .u32 2685067896), .lit (.int .u32 3183342108)]
def laid_hawser_hash_begun {H : Type} : DataW H := .agg [.lit (.int .u32 1779033703), .lit (.int .u32 3144134277), .lit (.int .u32 1013904242), .lit (.int .u32 2773480762), .lit (.int .u32 1359893119), .lit (.int .u32 2600822924), .lit (.int .u32 528734635), .lit (.int .u32 1541459225)]
def laid_hawser_hash_rounds {H : Type} : DataW H := .agg [.lit (.int .u32 1116352408), .lit (.int .u32 1899447441), .lit (.int .u32 3049323471), .lit (.int .u32 3921009573), .lit (.int .u32 961987163), .lit (.int .u32 1508970993), .lit (.int .u32 2453635748), .lit (.int .u32 2870763221), .lit (.int .u32 3624381080), .lit (.int .u32 310598401), .lit (.int .u32 607225278), .lit (.int .u32 1426881987), .lit (.int .u32 1925078388), .lit (.int .u32 2162078206), .lit (.int .u32 2614888103), .lit (.int .u32 3248222580), .lit (.int .u32 3835390401), .lit (.int .u32 4022224774), .lit (.int .u32 264347078), .lit (.int .u32 604807628), .lit (.int .u32 770255983), .lit (.int .u32 1249150122), .lit (.int .u32 1555081692), .lit (.int .u32 1996064986), .lit (.int .u32 2554220882), .lit (.int .u32 2821834349), .lit (.int .u32 2952996808), .lit (.int .u32 3210313671), .lit (.int .u32 3336571891), .lit (.int .u32 3584528711), .lit (.int .u32 113926993), .lit (.int .u32 338241895), .lit (.int .u32 666307205), .lit (.int .u32 773529912), .lit (.int .u32 1294757372), .lit (.int .u32 1396182291), .lit (.int .u32 1695183700), .lit (.int .u32 1986661051), .lit (.int .u32 2177026350), .lit (.int .u32 2456956037), .lit (.int .u32 2730485921), .lit (.int .u32 2820302411), .lit (.int .u32 3259730800), .lit (.int .u32 3345764771), .lit (.int .u32 3516065817), .lit (.int .u32 3600352804), .lit (.int .u32 4094571909), .lit (.int .u32 275423344), .lit (.int .u32 430227734), .lit (.int .u32 506948616), .lit (.int .u32 659060556), .lit (.int .u32 883997877), .lit (.int .u32 958139571), .lit (.int .u32 1322822218), .lit (.int .u32 1537002063), .lit (.int .u32 1747873779), .lit (.int .u32 1955562222), .lit (.int .u32 2024104815), .lit (.int .u32 2227730452), .lit (.int .u32 2361852424), .lit (.int .u32 2428436474), .lit (.int .u32 2756734187), .lit (.int .u32 3204031479), .lit (.int .u32 3329325298)]

/-- 'hawserlaw04.HashSums': WHATEVER THE INPUT: true; the input reads as it did. -/
def hashSumsSpec : ChangeSpec := { name := "hashSums", fn := fun _ => fun
  | [d] => { results := [.lit (.bool true)], args := [d] }
  | _ => none }
def hashSumsRow : OpenClaim := { program := "ytphblgpimphgiaadoor", sum := "9164387408d9caf799c44d860fe52face72d8707da2ce4423cc1b4a49d27f392", func := "hawser/hawserlaw04.HashSums", spec := "hashSums", named := ["hawser/hash.begun", "hawser/hash.rounds", "hawser/hash.checks"], apart := false, laid := [("hawser/hash.checks", laid_hawser_hash_checks), ("hawser/hash.begun", laid_hawser_hash_begun), ("hawser/hash.rounds", laid_hawser_hash_rounds)] }
def HashSumsSaid : Prop := hashSumsRow.holds Tryd.pinned (OpenSpec.ofChange hashSumsSpec)

/-- ITS FALSE NEIGHBOUR: 'it returns false'. Refute it at one input. -/
def hashSumsWrong : ChangeSpec := { name := "hashSums", fn := fun _ => fun
  | [d] => { results := [.lit (.bool false)], args := [d] }
  | _ => none }
def HashSumsWrongFalsely : Prop := hashSumsRow.holds Tryd.pinned (OpenSpec.ofChange hashSumsWrong)

/-- 'hawserlaw04.HashOthers': WHATEVER THE INPUT: true; the input reads as it did. -/
def hashOthersSpec : ChangeSpec := { name := "hashOthers", fn := fun _ => fun
  | [d1, d2, d3] => { results := [.lit (.bool true)], args := [d1, d2, d3] }
  | _ => none }
def hashOthersRow : OpenClaim := { program := "ytphblgpimphgiaadoor", sum := "9164387408d9caf799c44d860fe52face72d8707da2ce4423cc1b4a49d27f392", func := "hawser/hawserlaw04.HashOthers", spec := "hashOthers", named := ["hawser/hash.begun", "hawser/hash.rounds", "hawser/hash.checks"], apart := false, laid := [("hawser/hash.checks", laid_hawser_hash_checks), ("hawser/hash.begun", laid_hawser_hash_begun), ("hawser/hash.rounds", laid_hawser_hash_rounds)] }
def HashOthersSaid : Prop := hashOthersRow.holds Tryd.pinned (OpenSpec.ofChange hashOthersSpec)

/-- ITS FALSE NEIGHBOUR: 'it returns false'. Refute it at one input. -/
def hashOthersWrong : ChangeSpec := { name := "hashOthers", fn := fun _ => fun
  | [d1, d2, d3] => { results := [.lit (.bool false)], args := [d1, d2, d3] }
  | _ => none }
def HashOthersWrongFalsely : Prop := hashOthersRow.holds Tryd.pinned (OpenSpec.ofChange hashOthersWrong)

/-- 'hawserlaw04.HashRolls': WHATEVER THE INPUT: true; the input reads as it did. -/
def hashRollsSpec : ChangeSpec := { name := "hashRolls", fn := fun _ => fun
  | [d1, d2] => { results := [.lit (.bool true)], args := [d1, d2] }
  | _ => none }
def hashRollsRow : OpenClaim := { program := "ytphblgpimphgiaadoor", sum := "9164387408d9caf799c44d860fe52face72d8707da2ce4423cc1b4a49d27f392", func := "hawser/hawserlaw04.HashRolls", spec := "hashRolls", named := ["hawser/hash.begun", "hawser/hash.rounds", "hawser/hash.checks"], apart := false, laid := [("hawser/hash.checks", laid_hawser_hash_checks), ("hawser/hash.begun", laid_hawser_hash_begun), ("hawser/hash.rounds", laid_hawser_hash_rounds)] }
def HashRollsSaid : Prop := hashRollsRow.holds Tryd.pinned (OpenSpec.ofChange hashRollsSpec)

/-- ITS FALSE NEIGHBOUR: 'it returns false'. Refute it at one input. -/
def hashRollsWrong : ChangeSpec := { name := "hashRolls", fn := fun _ => fun
  | [d1, d2] => { results := [.lit (.bool false)], args := [d1, d2] }
  | _ => none }
def HashRollsWrongFalsely : Prop := hashRollsRow.holds Tryd.pinned (OpenSpec.ofChange hashRollsWrong)

/-- 'hawserlaw04.HashTurned': WHATEVER THE INPUT: true; the input reads as it did. -/
def hashTurnedSpec : ChangeSpec := { name := "hashTurned", fn := fun _ => fun
  | [d1, d2, d3] => { results := [.lit (.bool true)], args := [d1, d2, d3] }
  | _ => none }
def hashTurnedRow : OpenClaim := { program := "ytphblgpimphgiaadoor", sum := "9164387408d9caf799c44d860fe52face72d8707da2ce4423cc1b4a49d27f392", func := "hawser/hawserlaw04.HashTurned", spec := "hashTurned", named := ["hawser/hash.begun", "hawser/hash.rounds", "hawser/hash.checks"], apart := false, laid := [("hawser/hash.checks", laid_hawser_hash_checks), ("hawser/hash.begun", laid_hawser_hash_begun), ("hawser/hash.rounds", laid_hawser_hash_rounds)] }
def HashTurnedSaid : Prop := hashTurnedRow.holds Tryd.pinned (OpenSpec.ofChange hashTurnedSpec)

/-- ITS FALSE NEIGHBOUR: 'it returns false'. Refute it at one input. -/
def hashTurnedWrong : ChangeSpec := { name := "hashTurned", fn := fun _ => fun
  | [d1, d2, d3] => { results := [.lit (.bool false)], args := [d1, d2, d3] }
  | _ => none }
def HashTurnedWrongFalsely : Prop := hashTurnedRow.holds Tryd.pinned (OpenSpec.ofChange hashTurnedWrong)

/-- 'hawserlaw04.HashSame': WHATEVER THE INPUT: true; the input reads as it did. -/
def hashSameSpec : ChangeSpec := { name := "hashSame", fn := fun _ => fun
  | [d] => { results := [.lit (.bool true)], args := [d] }
  | _ => none }
def hashSameRow : OpenClaim := { program := "ytphblgpimphgiaadoor", sum := "9164387408d9caf799c44d860fe52face72d8707da2ce4423cc1b4a49d27f392", func := "hawser/hawserlaw04.HashSame", spec := "hashSame", named := ["hawser/hash.begun", "hawser/hash.rounds", "hawser/hash.checks"], apart := false, laid := [("hawser/hash.checks", laid_hawser_hash_checks), ("hawser/hash.begun", laid_hawser_hash_begun), ("hawser/hash.rounds", laid_hawser_hash_rounds)] }
def HashSameSaid : Prop := hashSameRow.holds Tryd.pinned (OpenSpec.ofChange hashSameSpec)

/-- ITS FALSE NEIGHBOUR: 'it returns false'. Refute it at one input. -/
def hashSameWrong : ChangeSpec := { name := "hashSame", fn := fun _ => fun
  | [d] => { results := [.lit (.bool false)], args := [d] }
  | _ => none }
def HashSameWrongFalsely : Prop := hashSameRow.holds Tryd.pinned (OpenSpec.ofChange hashSameWrong)

/- THE SECOND FORM. 'bulk': how many values and letters a reading holds, each counted each time it is reached (what is shared counts as often as it is met; a slice's spare places count too). A statement '..UptoSaid' is the law's where the arguments, and the package variables that the reading takes, are together of bulk at most 1048576: NARROWER than '..Said'. Prove '..Said' where nothing that the law and all that it calls make is longer than what came in: it says more and counts as full. Else prove '..UptoSaid'. A law counts once. -/
mutual
def uptoBulk {H : Type} : DataW H → Nat
  | .lit (.string bytes) => bytes.length + 1
  | .lit _ => 1
  | .nil => 1
  | .ptr d => uptoBulk d + 1
  | .slice elems spare => uptoBulkAll elems + uptoBulkAll spare + 1
  | .agg parts => uptoBulkAll parts + 1
  | .iface _ d => uptoBulk d + 1
  | .map entries => uptoBulkEntries entries + 1
  | .held _ => 1
def uptoBulkAll {H : Type} : List (DataW H) → Nat
  | [] => 0
  | d :: r => uptoBulk d + uptoBulkAll r
def uptoBulkEntries {H : Type} : List (Lit × DataW H) → Nat
  | [] => 0
  | x :: r => uptoBulkEntry x + uptoBulkEntries r
def uptoBulkEntry {H : Type} : Lit × DataW H → Nat
  | (.string bytes, d) => bytes.length + uptoBulk d + 1
  | (_, d) => uptoBulk d + 1
 end
def uptoSmall : (H : Type) → List (DataW H) → Bool := fun _ ds => decide (uptoBulkAll ds ≤ 1048576)
def OpenSpec.upto (s : _root_.Go.ChangeSpec) : _root_.Go.OpenSpec := { _root_.Go.OpenSpec.ofChange s with cond := some uptoSmall }

/-- 'hawserlaw04.HashSums', WHERE WHAT IT READS IS OF BULK AT MOST 1048576: true; the input reads as it did. -/
def hashSumsUptoRow : OpenClaim := { program := "ytphblgpimphgiaadoor", sum := "9164387408d9caf799c44d860fe52face72d8707da2ce4423cc1b4a49d27f392", func := "hawser/hawserlaw04.HashSums", spec := "hashSums", named := ["hawser/hash.begun", "hawser/hash.rounds", "hawser/hash.checks"], apart := false, laid := [("hawser/hash.checks", laid_hawser_hash_checks), ("hawser/hash.begun", laid_hawser_hash_begun), ("hawser/hash.rounds", laid_hawser_hash_rounds)], narrowed := true }
def HashSumsUptoSaid : Prop := hashSumsUptoRow.holds Tryd.pinned (OpenSpec.upto hashSumsSpec)

/-- 'hawserlaw04.HashOthers', WHERE WHAT IT READS IS OF BULK AT MOST 1048576: true; the input reads as it did. -/
def hashOthersUptoRow : OpenClaim := { program := "ytphblgpimphgiaadoor", sum := "9164387408d9caf799c44d860fe52face72d8707da2ce4423cc1b4a49d27f392", func := "hawser/hawserlaw04.HashOthers", spec := "hashOthers", named := ["hawser/hash.begun", "hawser/hash.rounds", "hawser/hash.checks"], apart := false, laid := [("hawser/hash.checks", laid_hawser_hash_checks), ("hawser/hash.begun", laid_hawser_hash_begun), ("hawser/hash.rounds", laid_hawser_hash_rounds)], narrowed := true }
def HashOthersUptoSaid : Prop := hashOthersUptoRow.holds Tryd.pinned (OpenSpec.upto hashOthersSpec)

/-- 'hawserlaw04.HashRolls', WHERE WHAT IT READS IS OF BULK AT MOST 1048576: true; the input reads as it did. -/
def hashRollsUptoRow : OpenClaim := { program := "ytphblgpimphgiaadoor", sum := "9164387408d9caf799c44d860fe52face72d8707da2ce4423cc1b4a49d27f392", func := "hawser/hawserlaw04.HashRolls", spec := "hashRolls", named := ["hawser/hash.begun", "hawser/hash.rounds", "hawser/hash.checks"], apart := false, laid := [("hawser/hash.checks", laid_hawser_hash_checks), ("hawser/hash.begun", laid_hawser_hash_begun), ("hawser/hash.rounds", laid_hawser_hash_rounds)], narrowed := true }
def HashRollsUptoSaid : Prop := hashRollsUptoRow.holds Tryd.pinned (OpenSpec.upto hashRollsSpec)

/-- 'hawserlaw04.HashTurned', WHERE WHAT IT READS IS OF BULK AT MOST 1048576: true; the input reads as it did. -/
def hashTurnedUptoRow : OpenClaim := { program := "ytphblgpimphgiaadoor", sum := "9164387408d9caf799c44d860fe52face72d8707da2ce4423cc1b4a49d27f392", func := "hawser/hawserlaw04.HashTurned", spec := "hashTurned", named := ["hawser/hash.begun", "hawser/hash.rounds", "hawser/hash.checks"], apart := false, laid := [("hawser/hash.checks", laid_hawser_hash_checks), ("hawser/hash.begun", laid_hawser_hash_begun), ("hawser/hash.rounds", laid_hawser_hash_rounds)], narrowed := true }
def HashTurnedUptoSaid : Prop := hashTurnedUptoRow.holds Tryd.pinned (OpenSpec.upto hashTurnedSpec)

/-- 'hawserlaw04.HashSame', WHERE WHAT IT READS IS OF BULK AT MOST 1048576: true; the input reads as it did. -/
def hashSameUptoRow : OpenClaim := { program := "ytphblgpimphgiaadoor", sum := "9164387408d9caf799c44d860fe52face72d8707da2ce4423cc1b4a49d27f392", func := "hawser/hawserlaw04.HashSame", spec := "hashSame", named := ["hawser/hash.begun", "hawser/hash.rounds", "hawser/hash.checks"], apart := false, laid := [("hawser/hash.checks", laid_hawser_hash_checks), ("hawser/hash.begun", laid_hawser_hash_begun), ("hawser/hash.rounds", laid_hawser_hash_rounds)], narrowed := true }
def HashSameUptoSaid : Prop := hashSameUptoRow.holds Tryd.pinned (OpenSpec.upto hashSameSpec)

end Rows
end Go.Proofs.YtphblgpimphgiaaDoor
