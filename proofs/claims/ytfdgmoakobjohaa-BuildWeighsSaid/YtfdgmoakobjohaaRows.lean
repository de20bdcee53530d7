/-
  No cell of these rows narrows 'for every input' (looked for: loops, veiled, ifaces, maps, wideKeys, modest, calm, conditions, laid).
  DERIVED. THE GIVEN ROWS OF THIS SEAT. 4 by the template 'for every input the law returns true; each argument reads behind the call as it read before'; 0 by the template 'total and deterministic' (their statements: YtfdgmoakobjohaaTotals.lean).
  GIVEN WITH THE SEED: the statements are not yours to turn. If you find one false, say at which input.
  Laid BY PROGRAM, IN A SANDBOX (cutbox-rows.mjs): the forced cells as the released guide's own fill.sh prints them over the translation c45ca46417f46c80… (all of the seat's roots in one cut). By AI agents, Wed Nov 11 2026. No macro, syntax, notation, axiom, sorry.
-/
import Derived.Test.YtfdgmoakobjohaaChecked
import GoSem.Claim
import GoSem.ClaimJoined
import GoSem.ClaimMapViews
import Derived.JoinedTies
import Derived.KernelRfl
namespace Go.Proofs.Ytfdgmoakobjohaa
/- THE CELL 'sum', in the pinned program and in every row, IS THE sha256 OF THE DUMP (.gsa) THAT YtfdgmoakobjohaaProg.lean LOADS. Nothing in Lean hashes anything: it is a label: what it is worth is what the hold of that sum in a sandbox is worth. -/
noncomputable def Try.pinned : Pinned := { name := "ytfdgmoakobjohaa", sum := "c45ca46417f46c808d2dd600b098ac92ccedaa14458ec84962e9959c14fd0d94", checked := Try.checked }
namespace Rows
def none {H : Type} : Left H := { results := [], args := [] }

/-- 'strainerlaw07.BuildShape': WHATEVER THE INPUT: true; the input reads as it did. -/
def buildShapeSpec : ChangeSpec := { name := "buildShape", fn := fun _ => fun
  | [d] => { results := [.lit (.bool true)], args := [d] }
  | _ => none }
def buildShapeRow : OpenClaim := { program := "ytfdgmoakobjohaa", sum := "c45ca46417f46c808d2dd600b098ac92ccedaa14458ec84962e9959c14fd0d94", func := "strainer/strainerlaw07.BuildShape", spec := "buildShape", inPlace := ["internal/abi.NoEscape"], unfollowed := true, recurses := true, apart := false }
def BuildShapeSaid : Prop := buildShapeRow.holds Try.pinned (OpenSpec.ofChange buildShapeSpec)

/-- ITS FALSE NEIGHBOUR: 'it returns false'. Refute it at one input. -/
def buildShapeWrong : ChangeSpec := { name := "buildShape", fn := fun _ => fun
  | [d] => { results := [.lit (.bool false)], args := [d] }
  | _ => none }
def BuildShapeWrongFalsely : Prop := buildShapeRow.holds Try.pinned (OpenSpec.ofChange buildShapeWrong)

/-- 'strainerlaw07.BuildKeeps': WHATEVER THE INPUT: true; the input reads as it did. -/
def buildKeepsSpec : ChangeSpec := { name := "buildKeeps", fn := fun _ => fun
  | [d] => { results := [.lit (.bool true)], args := [d] }
  | _ => none }
def buildKeepsRow : OpenClaim := { program := "ytfdgmoakobjohaa", sum := "c45ca46417f46c808d2dd600b098ac92ccedaa14458ec84962e9959c14fd0d94", func := "strainer/strainerlaw07.BuildKeeps", spec := "buildKeeps", inPlace := ["internal/abi.NoEscape"], unfollowed := true, recurses := true, apart := false }
def BuildKeepsSaid : Prop := buildKeepsRow.holds Try.pinned (OpenSpec.ofChange buildKeepsSpec)

/-- ITS FALSE NEIGHBOUR: 'it returns false'. Refute it at one input. -/
def buildKeepsWrong : ChangeSpec := { name := "buildKeeps", fn := fun _ => fun
  | [d] => { results := [.lit (.bool false)], args := [d] }
  | _ => none }
def BuildKeepsWrongFalsely : Prop := buildKeepsRow.holds Try.pinned (OpenSpec.ofChange buildKeepsWrong)

/-- 'strainerlaw07.BuildWraps': WHATEVER THE INPUT: true; the input reads as it did. -/
def buildWrapsSpec : ChangeSpec := { name := "buildWraps", fn := fun _ => fun
  | [d] => { results := [.lit (.bool true)], args := [d] }
  | _ => none }
def buildWrapsRow : OpenClaim := { program := "ytfdgmoakobjohaa", sum := "c45ca46417f46c808d2dd600b098ac92ccedaa14458ec84962e9959c14fd0d94", func := "strainer/strainerlaw07.BuildWraps", spec := "buildWraps", inPlace := ["internal/abi.NoEscape"], unfollowed := true, recurses := true, apart := false }
def BuildWrapsSaid : Prop := buildWrapsRow.holds Try.pinned (OpenSpec.ofChange buildWrapsSpec)

/-- ITS FALSE NEIGHBOUR: 'it returns false'. Refute it at one input. -/
def buildWrapsWrong : ChangeSpec := { name := "buildWraps", fn := fun _ => fun
  | [d] => { results := [.lit (.bool false)], args := [d] }
  | _ => none }
def BuildWrapsWrongFalsely : Prop := buildWrapsRow.holds Try.pinned (OpenSpec.ofChange buildWrapsWrong)

/-- 'strainerlaw07.BuildWeighs': WHATEVER THE INPUT: true; the input reads as it did. -/
def buildWeighsSpec : ChangeSpec := { name := "buildWeighs", fn := fun _ => fun
  | [d] => { results := [.lit (.bool true)], args := [d] }
  | _ => none }
def buildWeighsRow : OpenClaim := { program := "ytfdgmoakobjohaa", sum := "c45ca46417f46c808d2dd600b098ac92ccedaa14458ec84962e9959c14fd0d94", func := "strainer/strainerlaw07.BuildWeighs", spec := "buildWeighs", inPlace := ["internal/abi.NoEscape"], unfollowed := true, recurses := true, apart := false }
def BuildWeighsSaid : Prop := buildWeighsRow.holds Try.pinned (OpenSpec.ofChange buildWeighsSpec)

/-- ITS FALSE NEIGHBOUR: 'it returns false'. Refute it at one input. -/
def buildWeighsWrong : ChangeSpec := { name := "buildWeighs", fn := fun _ => fun
  | [d] => { results := [.lit (.bool false)], args := [d] }
  | _ => none }
def BuildWeighsWrongFalsely : Prop := buildWeighsRow.holds Try.pinned (OpenSpec.ofChange buildWeighsWrong)

/- THE SECOND FORM. 'bulk': how many values and letters a reading holds, each counted each time it is reached (what is shared counts as often as it is met; a slice's spare places count too). A statement '..UptoSaid' is the law's where the arguments, and the package variables that the reading takes, are together of bulk at most 1048576: NARROWER than '..Said'. Prove '..Said' where nothing that the law and all that it calls make is longer than what came in: it says more and counts as full. Else prove '..UptoSaid'. A law counts once. -/
mutual
def uptoBulk {H : Type} : DataW H → Nat
  | .lit (.string bytes) => bytes.length + 1
  | .lit _ => 1
  | .nil => 1
  | .ptr d => uptoBulk d + 1
  | .slice elems spare => uptoBulkAll elems + uptoBulkAll spare + 1
  | .agg parts => uptoBulkAll parts + 1
  | .iface _ d => uptoBulk d + 1
  | .map entries => uptoBulkEntries entries + 1
  | .held _ => 1
def uptoBulkAll {H : Type} : List (DataW H) → Nat
  | [] => 0
  | d :: r => uptoBulk d + uptoBulkAll r
def uptoBulkEntries {H : Type} : List (Lit × DataW H) → Nat
  | [] => 0
  | x :: r => uptoBulkEntry x + uptoBulkEntries r
def uptoBulkEntry {H : Type} : Lit × DataW H → Nat
  | (.string bytes, d) => bytes.length + uptoBulk d + 1
  | (_, d) => uptoBulk d + 1
 end
def uptoSmall : (H : Type) → List (DataW H) → Bool := fun _ ds => decide (uptoBulkAll ds ≤ 1048576)
def OpenSpec.upto (s : _root_.Go.ChangeSpec) : _root_.Go.OpenSpec := { _root_.Go.OpenSpec.ofChange s with cond := some uptoSmall }

/-- 'strainerlaw07.BuildShape', WHERE WHAT IT READS IS OF BULK AT MOST 1048576: true; the input reads as it did. -/
def buildShapeUptoRow : OpenClaim := { program := "ytfdgmoakobjohaa", sum := "c45ca46417f46c808d2dd600b098ac92ccedaa14458ec84962e9959c14fd0d94", func := "strainer/strainerlaw07.BuildShape", spec := "buildShape", inPlace := ["internal/abi.NoEscape"], unfollowed := true, recurses := true, apart := false, narrowed := true }
def BuildShapeUptoSaid : Prop := buildShapeUptoRow.holds Try.pinned (OpenSpec.upto buildShapeSpec)

/-- 'strainerlaw07.BuildKeeps', WHERE WHAT IT READS IS OF BULK AT MOST 1048576: true; the input reads as it did. -/
def buildKeepsUptoRow : OpenClaim := { program := "ytfdgmoakobjohaa", sum := "c45ca46417f46c808d2dd600b098ac92ccedaa14458ec84962e9959c14fd0d94", func := "strainer/strainerlaw07.BuildKeeps", spec := "buildKeeps", inPlace := ["internal/abi.NoEscape"], unfollowed := true, recurses := true, apart := false, narrowed := true }
def BuildKeepsUptoSaid : Prop := buildKeepsUptoRow.holds Try.pinned (OpenSpec.upto buildKeepsSpec)

/-- 'strainerlaw07.BuildWraps', WHERE WHAT IT READS IS OF BULK AT MOST 1048576: true; the input reads as it did. -/
def buildWrapsUptoRow : OpenClaim := { program := "ytfdgmoakobjohaa", sum := "c45ca46417f46c808d2dd600b098ac92ccedaa14458ec84962e9959c14fd0d94", func := "strainer/strainerlaw07.BuildWraps", spec := "buildWraps", inPlace := ["internal/abi.NoEscape"], unfollowed := true, recurses := true, apart := false, narrowed := true }
def BuildWrapsUptoSaid : Prop := buildWrapsUptoRow.holds Try.pinned (OpenSpec.upto buildWrapsSpec)

/-- 'strainerlaw07.BuildWeighs', WHERE WHAT IT READS IS OF BULK AT MOST 1048576: true; the input reads as it did. -/
def buildWeighsUptoRow : OpenClaim := { program := "ytfdgmoakobjohaa", sum := "c45ca46417f46c808d2dd600b098ac92ccedaa14458ec84962e9959c14fd0d94", func := "strainer/strainerlaw07.BuildWeighs", spec := "buildWeighs", inPlace := ["internal/abi.NoEscape"], unfollowed := true, recurses := true, apart := false, narrowed := true }
def BuildWeighsUptoSaid : Prop := buildWeighsUptoRow.holds Try.pinned (OpenSpec.upto buildWeighsSpec)

end Rows
end Go.Proofs.Ytfdgmoakobjohaa
