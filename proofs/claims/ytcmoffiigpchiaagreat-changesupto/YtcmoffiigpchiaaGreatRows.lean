/-
  No cell of these rows narrows 'for every input' (looked for: loops, veiled, ifaces, maps, wideKeys, modest, calm, conditions, laid).
  DERIVED. THE GIVEN ROWS OF THIS SEAT. 7 by the template 'for every input the law returns true; each argument reads behind the call as it read before'; 0 by the template 'total and deterministic' (their statements: YtcmoffiigpchiaaGreatTotals.lean).
  GIVEN WITH THE SEED: the statements are not yours to turn. If you find one false, say at which input.
  Laid BY PROGRAM, IN A SANDBOX (cutbox-rows.mjs): the forced cells as the released guide's own fill.sh prints them over the translation af6427c456c50a06… (all of the seat's roots in one cut). By AI agents, Wed Nov 11 2026. No macro, syntax, notation, axiom, sorry.
-/
import Derived.Test.YtcmoffiigpchiaaGreatChecked
import GoSem.Claim
import GoSem.ClaimJoined
import GoSem.ClaimMapViews
import Derived.JoinedTies
import Derived.KernelRfl
namespace Go.Proofs.YtcmoffiigpchiaaGreat
/- THE CELL 'sum', in the pinned program and in every row, IS THE sha256 OF THE DUMP (.gsa) THAT YtcmoffiigpchiaaGreatProg.lean LOADS. Nothing in Lean hashes anything: it is a label: what it is worth is what the hold of that sum in a sandbox is worth. -/
noncomputable def Tryz.pinned : Pinned := { name := "ytcmoffiigpchiaagreat", sum := "af6427c456c50a06126ef1c09771e2128719178640e0662b4b70010bb7803989", checked := Tryz.checked }
namespace Rows
def none {H : Type} : Left H := { results := [], args := [] }

/-- 'recalllaw.Checks': WHATEVER THE INPUT: true; the input reads as it did. -/
def checksSpec : ChangeSpec := { name := "checks", fn := fun _ => fun
  | [d] => { results := [.lit (.bool true)], args := [d] }
  | _ => none }
def checksRow : OpenClaim := { program := "ytcmoffiigpchiaagreat", sum := "af6427c456c50a06126ef1c09771e2128719178640e0662b4b70010bb7803989", func := "recall/recalllaw.Checks", spec := "checks", apart := false }
def ChecksSaid : Prop := checksRow.holds Tryz.pinned (OpenSpec.ofChange checksSpec)

/-- ITS FALSE NEIGHBOUR: 'it returns false'. Refute it at one input. -/
def checksWrong : ChangeSpec := { name := "checks", fn := fun _ => fun
  | [d] => { results := [.lit (.bool false)], args := [d] }
  | _ => none }
def ChecksWrongFalsely : Prop := checksRow.holds Tryz.pinned (OpenSpec.ofChange checksWrong)

/-- 'recalllaw.Steps': WHATEVER THE INPUT: true; the input reads as it did. -/
def stepsSpec : ChangeSpec := { name := "steps", fn := fun _ => fun
  | [d] => { results := [.lit (.bool true)], args := [d] }
  | _ => none }
def stepsRow : OpenClaim := { program := "ytcmoffiigpchiaagreat", sum := "af6427c456c50a06126ef1c09771e2128719178640e0662b4b70010bb7803989", func := "recall/recalllaw.Steps", spec := "steps", apart := false }
def StepsSaid : Prop := stepsRow.holds Tryz.pinned (OpenSpec.ofChange stepsSpec)

/-- ITS FALSE NEIGHBOUR: 'it returns false'. Refute it at one input. -/
def stepsWrong : ChangeSpec := { name := "steps", fn := fun _ => fun
  | [d] => { results := [.lit (.bool false)], args := [d] }
  | _ => none }
def StepsWrongFalsely : Prop := stepsRow.holds Tryz.pinned (OpenSpec.ofChange stepsWrong)

/-- 'recalllaw.Sums': WHATEVER THE INPUT: true; the input reads as it did. -/
def sumsSpec : ChangeSpec := { name := "sums", fn := fun _ => fun
  | [d] => { results := [.lit (.bool true)], args := [d] }
  | _ => none }
def sumsRow : OpenClaim := { program := "ytcmoffiigpchiaagreat", sum := "af6427c456c50a06126ef1c09771e2128719178640e0662b4b70010bb7803989", func := "recall/recalllaw.Sums", spec := "sums", apart := false }
def SumsSaid : Prop := sumsRow.holds Tryz.pinned (OpenSpec.ofChange sumsSpec)

/-- ITS FALSE NEIGHBOUR: 'it returns false'. Refute it at one input. -/
def sumsWrong : ChangeSpec := { name := "sums", fn := fun _ => fun
  | [d] => { results := [.lit (.bool false)], args := [d] }
  | _ => none }
def SumsWrongFalsely : Prop := sumsRow.holds Tryz.pinned (OpenSpec.ofChange sumsWrong)

/-- 'recalllaw.Records': WHATEVER THE INPUT: true; the input reads as it did. -/
def recordsSpec : ChangeSpec := { name := "records", fn := fun _ => fun
  | [d] => { results := [.lit (.bool true)], args := [d] }
  | _ => none }
def recordsRow : OpenClaim := { program := "ytcmoffiigpchiaagreat", sum := "af6427c456c50a06126ef1c09771e2128719178640e0662b4b70010bb7803989", func := "recall/recalllaw.Records", spec := "records", apart := false }
def RecordsSaid : Prop := recordsRow.holds Tryz.pinned (OpenSpec.ofChange recordsSpec)

/-- ITS FALSE NEIGHBOUR: 'it returns false'. Refute it at one input. -/
def recordsWrong : ChangeSpec := { name := "records", fn := fun _ => fun
  | [d] => { results := [.lit (.bool false)], args := [d] }
  | _ => none }
def RecordsWrongFalsely : Prop := recordsRow.holds Tryz.pinned (OpenSpec.ofChange recordsWrong)

/-- 'recalllaw.Spans': WHATEVER THE INPUT: true; the input reads as it did. -/
def spansSpec : ChangeSpec := { name := "spans", fn := fun _ => fun
  | [d] => { results := [.lit (.bool true)], args := [d] }
  | _ => none }
def spansRow : OpenClaim := { program := "ytcmoffiigpchiaagreat", sum := "af6427c456c50a06126ef1c09771e2128719178640e0662b4b70010bb7803989", func := "recall/recalllaw.Spans", spec := "spans", apart := false }
def SpansSaid : Prop := spansRow.holds Tryz.pinned (OpenSpec.ofChange spansSpec)

/-- ITS FALSE NEIGHBOUR: 'it returns false'. Refute it at one input. -/
def spansWrong : ChangeSpec := { name := "spans", fn := fun _ => fun
  | [d] => { results := [.lit (.bool false)], args := [d] }
  | _ => none }
def SpansWrongFalsely : Prop := spansRow.holds Tryz.pinned (OpenSpec.ofChange spansWrong)

/-- 'recalllaw.Ats': WHATEVER THE INPUT: true; the input reads as it did. -/
def atsSpec : ChangeSpec := { name := "ats", fn := fun _ => fun
  | [d] => { results := [.lit (.bool true)], args := [d] }
  | _ => none }
def atsRow : OpenClaim := { program := "ytcmoffiigpchiaagreat", sum := "af6427c456c50a06126ef1c09771e2128719178640e0662b4b70010bb7803989", func := "recall/recalllaw.Ats", spec := "ats", apart := false }
def AtsSaid : Prop := atsRow.holds Tryz.pinned (OpenSpec.ofChange atsSpec)

/-- ITS FALSE NEIGHBOUR: 'it returns false'. Refute it at one input. -/
def atsWrong : ChangeSpec := { name := "ats", fn := fun _ => fun
  | [d] => { results := [.lit (.bool false)], args := [d] }
  | _ => none }
def AtsWrongFalsely : Prop := atsRow.holds Tryz.pinned (OpenSpec.ofChange atsWrong)

/-- 'recalllaw.Changes': WHATEVER THE INPUT: true; the input reads as it did. -/
def changesSpec : ChangeSpec := { name := "changes", fn := fun _ => fun
  | [d] => { results := [.lit (.bool true)], args := [d] }
  | _ => none }
def changesRow : OpenClaim := { program := "ytcmoffiigpchiaagreat", sum := "af6427c456c50a06126ef1c09771e2128719178640e0662b4b70010bb7803989", func := "recall/recalllaw.Changes", spec := "changes", apart := false }
def ChangesSaid : Prop := changesRow.holds Tryz.pinned (OpenSpec.ofChange changesSpec)

/-- ITS FALSE NEIGHBOUR: 'it returns false'. Refute it at one input. -/
def changesWrong : ChangeSpec := { name := "changes", fn := fun _ => fun
  | [d] => { results := [.lit (.bool false)], args := [d] }
  | _ => none }
def ChangesWrongFalsely : Prop := changesRow.holds Tryz.pinned (OpenSpec.ofChange changesWrong)

/- THE SECOND FORM. 'bulk': how many values and letters a reading holds, each counted each time it is reached (what is shared counts as often as it is met; a slice's spare places count too). A statement '..UptoSaid' is the law's where the arguments, and the package variables that the reading takes, are together of bulk at most 1048576: NARROWER than '..Said'. Prove '..Said' where nothing that the law and all that it calls make is longer than what came in: it says more and counts as full. Else prove '..UptoSaid'. A law counts once. -/
mutual
def uptoBulk {H : Type} : DataW H → Nat
  | .lit (.string bytes) => bytes.length + 1
  | .lit _ => 1
  | .nil => 1
  | .ptr d => uptoBulk d + 1
  | .slice elems spare => uptoBulkAll elems + uptoBulkAll spare + 1
  | .agg parts => uptoBulkAll parts + 1
  | .iface _ d => uptoBulk d + 1
  | .map entries => uptoBulkEntries entries + 1
  | .held _ => 1
def uptoBulkAll {H : Type} : List (DataW H) → Nat
  | [] => 0
  | d :: r => uptoBulk d + uptoBulkAll r
def uptoBulkEntries {H : Type} : List (Lit × DataW H) → Nat
  | [] => 0
  | x :: r => uptoBulkEntry x + uptoBulkEntries r
def uptoBulkEntry {H : Type} : Lit × DataW H → Nat
  | (.string bytes, d) => bytes.length + uptoBulk d + 1
  | (_, d) => uptoBulk d + 1
 end
def uptoSmall : (H : Type) → List (DataW H) → Bool := fun _ ds => decide (uptoBulkAll ds ≤ 1048576)
def OpenSpec.upto (s : _root_.Go.ChangeSpec) : _root_.Go.OpenSpec := { _root_.Go.OpenSpec.ofChange s with cond := some uptoSmall }

/-- 'recalllaw.Checks', WHERE WHAT IT READS IS OF BULK AT MOST 1048576: true; the input reads as it did. -/
def checksUptoRow : OpenClaim := { program := "ytcmoffiigpchiaagreat", sum := "af6427c456c50a06126ef1c09771e2128719178640e0662b4b70010bb7803989", func := "recall/recalllaw.Checks", spec := "checks", apart := false, narrowed := true }
def ChecksUptoSaid : Prop := checksUptoRow.holds Tryz.pinned (OpenSpec.upto checksSpec)

/-- 'recalllaw.Steps', WHERE WHAT IT READS IS OF BULK AT MOST 1048576: true; the input reads as it did. -/
def stepsUptoRow : OpenClaim := { program := "ytcmoffiigpchiaagreat", sum := "af6427c456c50a06126ef1c09771e2128719178640e0662b4b70010bb7803989", func := "recall/recalllaw.Steps", spec := "steps", apart := false, narrowed := true }
def StepsUptoSaid : Prop := stepsUptoRow.holds Tryz.pinned (OpenSpec.upto stepsSpec)

/-- 'recalllaw.Sums', WHERE WHAT IT READS IS OF BULK AT MOST 1048576: true; the input reads as it did. -/
def sumsUptoRow : OpenClaim := { program := "ytcmoffiigpchiaagreat", sum := "af6427c456c50a06126ef1c09771e2128719178640e0662b4b70010bb7803989", func := "recall/recalllaw.Sums", spec := "sums", apart := false, narrowed := true }
def SumsUptoSaid : Prop := sumsUptoRow.holds Tryz.pinned (OpenSpec.upto sumsSpec)

/-- 'recalllaw.Records', WHERE WHAT IT READS IS OF BULK AT MOST 1048576: true; the input reads as it did. -/
def recordsUptoRow : OpenClaim := { program := "ytcmoffiigpchiaagreat", sum := "af6427c456c50a06126ef1c09771e2128719178640e0662b4b70010bb7803989", func := "recall/recalllaw.Records", spec := "records", apart := false, narrowed := true }
def RecordsUptoSaid : Prop := recordsUptoRow.holds Tryz.pinned (OpenSpec.upto recordsSpec)

/-- 'recalllaw.Spans', WHERE WHAT IT READS IS OF BULK AT MOST 1048576: true; the input reads as it did. -/
def spansUptoRow : OpenClaim := { program := "ytcmoffiigpchiaagreat", sum := "af6427c456c50a06126ef1c09771e2128719178640e0662b4b70010bb7803989", func := "recall/recalllaw.Spans", spec := "spans", apart := false, narrowed := true }
def SpansUptoSaid : Prop := spansUptoRow.holds Tryz.pinned (OpenSpec.upto spansSpec)

/-- 'recalllaw.Ats', WHERE WHAT IT READS IS OF BULK AT MOST 1048576: true; the input reads as it did. -/
def atsUptoRow : OpenClaim := { program := "ytcmoffiigpchiaagreat", sum := "af6427c456c50a06126ef1c09771e2128719178640e0662b4b70010bb7803989", func := "recall/recalllaw.Ats", spec := "ats", apart := false, narrowed := true }
def AtsUptoSaid : Prop := atsUptoRow.holds Tryz.pinned (OpenSpec.upto atsSpec)

/-- 'recalllaw.Changes', WHERE WHAT IT READS IS OF BULK AT MOST 1048576: true; the input reads as it did. -/
def changesUptoRow : OpenClaim := { program := "ytcmoffiigpchiaagreat", sum := "af6427c456c50a06126ef1c09771e2128719178640e0662b4b70010bb7803989", func := "recall/recalllaw.Changes", spec := "changes", apart := false, narrowed := true }
def ChangesUptoSaid : Prop := changesUptoRow.holds Tryz.pinned (OpenSpec.upto changesSpec)

end Rows
end Go.Proofs.YtcmoffiigpchiaaGreat
