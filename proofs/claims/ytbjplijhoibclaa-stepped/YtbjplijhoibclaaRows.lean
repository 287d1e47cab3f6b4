/-
  No cell of these rows narrows 'for every input' (looked for: loops, veiled, ifaces, maps, wideKeys, modest, calm, conditions, laid).
  DERIVED. THE GIVEN ROWS OF THIS SEAT. 5 by the template 'for every input the law returns true; each argument reads behind the call as it read before'; 0 by the template 'total and deterministic' (their statements: YtbjplijhoibclaaTotals.lean).
  GIVEN WITH THE SEED: the statements are not yours to turn. If you find one false, say at which input.
  Laid BY PROGRAM, IN A SANDBOX (cutbox-rows.mjs): the forced cells as the released guide's own fill.sh prints them over the translation 5db763ee75de0d2e… (all of the seat's roots in one cut). By AI agents, Wed Nov 11 2026. No macro, syntax, notation, axiom, sorry.
-/
import Derived.Test.YtbjplijhoibclaaChecked
import GoSem.Claim
import GoSem.ClaimJoined
import GoSem.ClaimMapViews
import Derived.JoinedTies
import Derived.KernelRfl
namespace Go.Proofs.Ytbjplijhoibclaa
/- THE CELL 'sum', in the pinned program and in every row, IS THE sha256 OF THE DUMP (.gsa) THAT YtbjplijhoibclaaProg.lean LOADS. Nothing in Lean hashes anything: it is a label: what it is worth is what the hold of that sum in a sandbox is worth. -/
noncomputable def Try.pinned : Pinned := { name := "ytbjplijhoibclaa", sum := "5db763ee75de0d2e77b72c2eb1ac46ccb56b9a4eb64c7ff1b13be2d7e1a4e551", checked := Try.checked }
namespace Rows
def none {H : Type} : Left H := { results := [], args := [] }

/-- 'recalllaw.Checks': WHATEVER THE INPUT: true; the input reads as it did. -/
def checksSpec : ChangeSpec := { name := "checks", fn := fun _ => fun
  | [d] => { results := [.lit (.bool true)], args := [d] }
  | _ => none }
def checksRow : OpenClaim := { program := "ytbjplijhoibclaa", sum := "5db763ee75de0d2e77b72c2eb1ac46ccb56b9a4eb64c7ff1b13be2d7e1a4e551", func := "recall/recalllaw.Checks", spec := "checks", apart := false }
def ChecksSaid : Prop := checksRow.holds Try.pinned (OpenSpec.ofChange checksSpec)

/-- ITS FALSE NEIGHBOUR: 'it returns false'. Refute it at one input. -/
def checksWrong : ChangeSpec := { name := "checks", fn := fun _ => fun
  | [d] => { results := [.lit (.bool false)], args := [d] }
  | _ => none }
def ChecksWrongFalsely : Prop := checksRow.holds Try.pinned (OpenSpec.ofChange checksWrong)

/-- 'recalllaw.Steps': WHATEVER THE INPUT: true; the input reads as it did. -/
def stepsSpec : ChangeSpec := { name := "steps", fn := fun _ => fun
  | [d] => { results := [.lit (.bool true)], args := [d] }
  | _ => none }
def stepsRow : OpenClaim := { program := "ytbjplijhoibclaa", sum := "5db763ee75de0d2e77b72c2eb1ac46ccb56b9a4eb64c7ff1b13be2d7e1a4e551", func := "recall/recalllaw.Steps", spec := "steps", apart := false }
def StepsSaid : Prop := stepsRow.holds Try.pinned (OpenSpec.ofChange stepsSpec)

/-- ITS FALSE NEIGHBOUR: 'it returns false'. Refute it at one input. -/
def stepsWrong : ChangeSpec := { name := "steps", fn := fun _ => fun
  | [d] => { results := [.lit (.bool false)], args := [d] }
  | _ => none }
def StepsWrongFalsely : Prop := stepsRow.holds Try.pinned (OpenSpec.ofChange stepsWrong)

/-- 'recalllaw.Sums': WHATEVER THE INPUT: true; the input reads as it did. -/
def sumsSpec : ChangeSpec := { name := "sums", fn := fun _ => fun
  | [d] => { results := [.lit (.bool true)], args := [d] }
  | _ => none }
def sumsRow : OpenClaim := { program := "ytbjplijhoibclaa", sum := "5db763ee75de0d2e77b72c2eb1ac46ccb56b9a4eb64c7ff1b13be2d7e1a4e551", func := "recall/recalllaw.Sums", spec := "sums", apart := false }
def SumsSaid : Prop := sumsRow.holds Try.pinned (OpenSpec.ofChange sumsSpec)

/-- ITS FALSE NEIGHBOUR: 'it returns false'. Refute it at one input. -/
def sumsWrong : ChangeSpec := { name := "sums", fn := fun _ => fun
  | [d] => { results := [.lit (.bool false)], args := [d] }
  | _ => none }
def SumsWrongFalsely : Prop := sumsRow.holds Try.pinned (OpenSpec.ofChange sumsWrong)

/-- 'recalllaw.Records': WHATEVER THE INPUT: true; the input reads as it did. -/
def recordsSpec : ChangeSpec := { name := "records", fn := fun _ => fun
  | [d] => { results := [.lit (.bool true)], args := [d] }
  | _ => none }
def recordsRow : OpenClaim := { program := "ytbjplijhoibclaa", sum := "5db763ee75de0d2e77b72c2eb1ac46ccb56b9a4eb64c7ff1b13be2d7e1a4e551", func := "recall/recalllaw.Records", spec := "records", apart := false }
def RecordsSaid : Prop := recordsRow.holds Try.pinned (OpenSpec.ofChange recordsSpec)

/-- ITS FALSE NEIGHBOUR: 'it returns false'. Refute it at one input. -/
def recordsWrong : ChangeSpec := { name := "records", fn := fun _ => fun
  | [d] => { results := [.lit (.bool false)], args := [d] }
  | _ => none }
def RecordsWrongFalsely : Prop := recordsRow.holds Try.pinned (OpenSpec.ofChange recordsWrong)

/-- 'recallkeep.Stepped': WHATEVER THE INPUT: true; the input reads as it did. -/
def steppedSpec : ChangeSpec := { name := "stepped", fn := fun _ => fun
  | [d1, d2, d3, d4, d5] => { results := [.lit (.bool true)], args := [d1, d2, d3, d4, d5] }
  | _ => none }
def steppedRow : OpenClaim := { program := "ytbjplijhoibclaa", sum := "5db763ee75de0d2e77b72c2eb1ac46ccb56b9a4eb64c7ff1b13be2d7e1a4e551", func := "recall/recallkeep.Stepped", spec := "stepped", apart := false }
def SteppedSaid : Prop := steppedRow.holds Try.pinned (OpenSpec.ofChange steppedSpec)

/-- ITS FALSE NEIGHBOUR: 'it returns false'. Refute it at one input. -/
def steppedWrong : ChangeSpec := { name := "stepped", fn := fun _ => fun
  | [d1, d2, d3, d4, d5] => { results := [.lit (.bool false)], args := [d1, d2, d3, d4, d5] }
  | _ => none }
def SteppedWrongFalsely : Prop := steppedRow.holds Try.pinned (OpenSpec.ofChange steppedWrong)

/- THE SECOND FORM. 'bulk': how many values and letters a reading holds, each counted each time it is reached (what is shared counts as often as it is met; a slice's spare places count too). A statement '..UptoSaid' is the law's where the arguments, and the package variables that the reading takes, are together of bulk at most 1048576: NARROWER than '..Said'. Prove '..Said' where nothing that the law and all that it calls make is longer than what came in: it says more and counts as full. Else prove '..UptoSaid'. A law counts once. -/
mutual
def uptoBulk {H : Type} : DataW H → Nat
  | .lit (.string bytes) => bytes.length + 1
  | .lit _ => 1
  | .nil => 1
  | .ptr d => uptoBulk d + 1
  | .slice elems spare => uptoBulkAll elems + uptoBulkAll spare + 1
  | .agg parts => uptoBulkAll parts + 1
  | .iface _ d => uptoBulk d + 1
  | .map entries => uptoBulkEntries entries + 1
  | .held _ => 1
def uptoBulkAll {H : Type} : List (DataW H) → Nat
  | [] => 0
  | d :: r => uptoBulk d + uptoBulkAll r
def uptoBulkEntries {H : Type} : List (Lit × DataW H) → Nat
  | [] => 0
  | x :: r => uptoBulkEntry x + uptoBulkEntries r
def uptoBulkEntry {H : Type} : Lit × DataW H → Nat
  | (.string bytes, d) => bytes.length + uptoBulk d + 1
  | (_, d) => uptoBulk d + 1
 end
def uptoSmall : (H : Type) → List (DataW H) → Bool := fun _ ds => decide (uptoBulkAll ds ≤ 1048576)
def OpenSpec.upto (s : _root_.Go.ChangeSpec) : _root_.Go.OpenSpec := { _root_.Go.OpenSpec.ofChange s with cond := some uptoSmall }

/-- 'recalllaw.Checks', WHERE WHAT IT READS IS OF BULK AT MOST 1048576: true; the input reads as it did. -/
def checksUptoRow : OpenClaim := { program := "ytbjplijhoibclaa", sum := "5db763ee75de0d2e77b72c2eb1ac46ccb56b9a4eb64c7ff1b13be2d7e1a4e551", func := "recall/recalllaw.Checks", spec := "checks", apart := false, narrowed := true }
def ChecksUptoSaid : Prop := checksUptoRow.holds Try.pinned (OpenSpec.upto checksSpec)

/-- 'recalllaw.Steps', WHERE WHAT IT READS IS OF BULK AT MOST 1048576: true; the input reads as it did. -/
def stepsUptoRow : OpenClaim := { program := "ytbjplijhoibclaa", sum := "5db763ee75de0d2e77b72c2eb1ac46ccb56b9a4eb64c7ff1b13be2d7e1a4e551", func := "recall/recalllaw.Steps", spec := "steps", apart := false, narrowed := true }
def StepsUptoSaid : Prop := stepsUptoRow.holds Try.pinned (OpenSpec.upto stepsSpec)

/-- 'recalllaw.Sums', WHERE WHAT IT READS IS OF BULK AT MOST 1048576: true; the input reads as it did. -/
def sumsUptoRow : OpenClaim := { program := "ytbjplijhoibclaa", sum := "5db763ee75de0d2e77b72c2eb1ac46ccb56b9a4eb64c7ff1b13be2d7e1a4e551", func := "recall/recalllaw.Sums", spec := "sums", apart := false, narrowed := true }
def SumsUptoSaid : Prop := sumsUptoRow.holds Try.pinned (OpenSpec.upto sumsSpec)

/-- 'recalllaw.Records', WHERE WHAT IT READS IS OF BULK AT MOST 1048576: true; the input reads as it did. -/
def recordsUptoRow : OpenClaim := { program := "ytbjplijhoibclaa", sum := "5db763ee75de0d2e77b72c2eb1ac46ccb56b9a4eb64c7ff1b13be2d7e1a4e551", func := "recall/recalllaw.Records", spec := "records", apart := false, narrowed := true }
def RecordsUptoSaid : Prop := recordsUptoRow.holds Try.pinned (OpenSpec.upto recordsSpec)

/-- 'recallkeep.Stepped', WHERE WHAT IT READS IS OF BULK AT MOST 1048576: true; the input reads as it did. -/
def steppedUptoRow : OpenClaim := { program := "ytbjplijhoibclaa", sum := "5db763ee75de0d2e77b72c2eb1ac46ccb56b9a4eb64c7ff1b13be2d7e1a4e551", func := "recall/recallkeep.Stepped", spec := "stepped", apart := false, narrowed := true }
def SteppedUptoSaid : Prop := steppedUptoRow.holds Try.pinned (OpenSpec.upto steppedSpec)

end Rows
end Go.Proofs.Ytbjplijhoibclaa
