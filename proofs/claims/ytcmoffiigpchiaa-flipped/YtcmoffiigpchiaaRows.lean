/-
  No cell of these rows narrows 'for every input' (looked for: loops, veiled, ifaces, maps, wideKeys, modest, calm, conditions, laid).
  DERIVED. THE GIVEN ROWS OF THIS SEAT. 5 by the template 'for every input the law returns true; each argument reads behind the call as it read before'; 0 by the template 'total and deterministic' (their statements: YtcmoffiigpchiaaTotals.lean).
  GIVEN WITH THE SEED: the statements are not yours to turn. If you find one false, say at which input.
  Laid BY PROGRAM, IN A SANDBOX (cutbox-rows.mjs): the forced cells as the released guide's own fill.sh prints them over the translation 2581a3109fd7cc36… (all of the seat's roots in one cut). By AI agents, Wed Nov 11 2026. No macro, syntax, notation, axiom, sorry.
-/
import Derived.Test.YtcmoffiigpchiaaChecked
import GoSem.Claim
import GoSem.ClaimJoined
import GoSem.ClaimMapViews
import Derived.JoinedTies
import Derived.KernelRfl
namespace Go.Proofs.Ytcmoffiigpchiaa
/- THE CELL 'sum', in the pinned program and in every row, IS THE sha256 OF THE DUMP (.gsa) THAT YtcmoffiigpchiaaProg.lean LOADS. Nothing in Lean hashes anything: it is a label: what it is worth is what the hold of that sum in a sandbox is worth. -/
noncomputable def Try.pinned : Pinned := { name := "ytcmoffiigpchiaa", sum := "2581a3109fd7cc360507d2f97d062eb206a82442bc613decf4fe83fdc35b425d", checked := Try.checked }
namespace Rows
def none {H : Type} : Left H := { results := [], args := [] }

/-- 'recallkeep.Stepped': WHATEVER THE INPUT: true; the input reads as it did. -/
def steppedSpec : ChangeSpec := { name := "stepped", fn := fun _ => fun
  | [d1, d2, d3, d4, d5] => { results := [.lit (.bool true)], args := [d1, d2, d3, d4, d5] }
  | _ => none }
def steppedRow : OpenClaim := { program := "ytcmoffiigpchiaa", sum := "2581a3109fd7cc360507d2f97d062eb206a82442bc613decf4fe83fdc35b425d", func := "recall/recallkeep.Stepped", spec := "stepped", apart := false }
def SteppedSaid : Prop := steppedRow.holds Try.pinned (OpenSpec.ofChange steppedSpec)

/-- ITS FALSE NEIGHBOUR: 'it returns false'. Refute it at one input. -/
def steppedWrong : ChangeSpec := { name := "stepped", fn := fun _ => fun
  | [d1, d2, d3, d4, d5] => { results := [.lit (.bool false)], args := [d1, d2, d3, d4, d5] }
  | _ => none }
def SteppedWrongFalsely : Prop := steppedRow.holds Try.pinned (OpenSpec.ofChange steppedWrong)

/-- 'recallkeep.Recalled': WHATEVER THE INPUT: true; the input reads as it did. -/
def recalledSpec : ChangeSpec := { name := "recalled", fn := fun _ => fun
  | [d1, d2, d3, d4, d5] => { results := [.lit (.bool true)], args := [d1, d2, d3, d4, d5] }
  | _ => none }
def recalledRow : OpenClaim := { program := "ytcmoffiigpchiaa", sum := "2581a3109fd7cc360507d2f97d062eb206a82442bc613decf4fe83fdc35b425d", func := "recall/recallkeep.Recalled", spec := "recalled", apart := false }
def RecalledSaid : Prop := recalledRow.holds Try.pinned (OpenSpec.ofChange recalledSpec)

/-- ITS FALSE NEIGHBOUR: 'it returns false'. Refute it at one input. -/
def recalledWrong : ChangeSpec := { name := "recalled", fn := fun _ => fun
  | [d1, d2, d3, d4, d5] => { results := [.lit (.bool false)], args := [d1, d2, d3, d4, d5] }
  | _ => none }
def RecalledWrongFalsely : Prop := recalledRow.holds Try.pinned (OpenSpec.ofChange recalledWrong)

/-- 'recallkeep.Cut': WHATEVER THE INPUT: true; the input reads as it did. -/
def cutSpec : ChangeSpec := { name := "cut", fn := fun _ => fun
  | [d1, d2, d3, d4, d5, d6] => { results := [.lit (.bool true)], args := [d1, d2, d3, d4, d5, d6] }
  | _ => none }
def cutRow : OpenClaim := { program := "ytcmoffiigpchiaa", sum := "2581a3109fd7cc360507d2f97d062eb206a82442bc613decf4fe83fdc35b425d", func := "recall/recallkeep.Cut", spec := "cut", apart := false }
def CutSaid : Prop := cutRow.holds Try.pinned (OpenSpec.ofChange cutSpec)

/-- ITS FALSE NEIGHBOUR: 'it returns false'. Refute it at one input. -/
def cutWrong : ChangeSpec := { name := "cut", fn := fun _ => fun
  | [d1, d2, d3, d4, d5, d6] => { results := [.lit (.bool false)], args := [d1, d2, d3, d4, d5, d6] }
  | _ => none }
def CutWrongFalsely : Prop := cutRow.holds Try.pinned (OpenSpec.ofChange cutWrong)

/-- 'recallkeep.Flipped': WHATEVER THE INPUT: true; the input reads as it did. -/
def flippedSpec : ChangeSpec := { name := "flipped", fn := fun _ => fun
  | [d1, d2, d3, d4, d5, d6, d7] => { results := [.lit (.bool true)], args := [d1, d2, d3, d4, d5, d6, d7] }
  | _ => none }
def flippedRow : OpenClaim := { program := "ytcmoffiigpchiaa", sum := "2581a3109fd7cc360507d2f97d062eb206a82442bc613decf4fe83fdc35b425d", func := "recall/recallkeep.Flipped", spec := "flipped", apart := false }
def FlippedSaid : Prop := flippedRow.holds Try.pinned (OpenSpec.ofChange flippedSpec)

/-- ITS FALSE NEIGHBOUR: 'it returns false'. Refute it at one input. -/
def flippedWrong : ChangeSpec := { name := "flipped", fn := fun _ => fun
  | [d1, d2, d3, d4, d5, d6, d7] => { results := [.lit (.bool false)], args := [d1, d2, d3, d4, d5, d6, d7] }
  | _ => none }
def FlippedWrongFalsely : Prop := flippedRow.holds Try.pinned (OpenSpec.ofChange flippedWrong)

/-- 'recallkeep.Watched': WHATEVER THE INPUT: true; the input reads as it did. -/
def watchedSpec : ChangeSpec := { name := "watched", fn := fun _ => fun
  | [d1, d2, d3, d4, d5, d6] => { results := [.lit (.bool true)], args := [d1, d2, d3, d4, d5, d6] }
  | _ => none }
def watchedRow : OpenClaim := { program := "ytcmoffiigpchiaa", sum := "2581a3109fd7cc360507d2f97d062eb206a82442bc613decf4fe83fdc35b425d", func := "recall/recallkeep.Watched", spec := "watched", apart := false }
def WatchedSaid : Prop := watchedRow.holds Try.pinned (OpenSpec.ofChange watchedSpec)

/-- ITS FALSE NEIGHBOUR: 'it returns false'. Refute it at one input. -/
def watchedWrong : ChangeSpec := { name := "watched", fn := fun _ => fun
  | [d1, d2, d3, d4, d5, d6] => { results := [.lit (.bool false)], args := [d1, d2, d3, d4, d5, d6] }
  | _ => none }
def WatchedWrongFalsely : Prop := watchedRow.holds Try.pinned (OpenSpec.ofChange watchedWrong)

/- THE SECOND FORM. 'bulk': how many values and letters a reading holds, each counted each time it is reached (what is shared counts as often as it is met; a slice's spare places count too). A statement '..UptoSaid' is the law's where the arguments, and the package variables that the reading takes, are together of bulk at most 1048576: NARROWER than '..Said'. Prove '..Said' where nothing that the law and all that it calls make is longer than what came in: it says more and counts as full. Else prove '..UptoSaid'. A law counts once. -/
mutual
def uptoBulk {H : Type} : DataW H → Nat
  | .lit (.string bytes) => bytes.length + 1
  | .lit _ => 1
  | .nil => 1
  | .ptr d => uptoBulk d + 1
  | .slice elems spare => uptoBulkAll elems + uptoBulkAll spare + 1
  | .agg parts => uptoBulkAll parts + 1
  | .iface _ d => uptoBulk d + 1
  | .map entries => uptoBulkEntries entries + 1
  | .held _ => 1
def uptoBulkAll {H : Type} : List (DataW H) → Nat
  | [] => 0
  | d :: r => uptoBulk d + uptoBulkAll r
def uptoBulkEntries {H : Type} : List (Lit × DataW H) → Nat
  | [] => 0
  | x :: r => uptoBulkEntry x + uptoBulkEntries r
def uptoBulkEntry {H : Type} : Lit × DataW H → Nat
  | (.string bytes, d) => bytes.length + uptoBulk d + 1
  | (_, d) => uptoBulk d + 1
 end
def uptoSmall : (H : Type) → List (DataW H) → Bool := fun _ ds => decide (uptoBulkAll ds ≤ 1048576)
def OpenSpec.upto (s : _root_.Go.ChangeSpec) : _root_.Go.OpenSpec := { _root_.Go.OpenSpec.ofChange s with cond := some uptoSmall }

/-- 'recallkeep.Stepped', WHERE WHAT IT READS IS OF BULK AT MOST 1048576: true; the input reads as it did. -/
def steppedUptoRow : OpenClaim := { program := "ytcmoffiigpchiaa", sum := "2581a3109fd7cc360507d2f97d062eb206a82442bc613decf4fe83fdc35b425d", func := "recall/recallkeep.Stepped", spec := "stepped", apart := false, narrowed := true }
def SteppedUptoSaid : Prop := steppedUptoRow.holds Try.pinned (OpenSpec.upto steppedSpec)

/-- 'recallkeep.Recalled', WHERE WHAT IT READS IS OF BULK AT MOST 1048576: true; the input reads as it did. -/
def recalledUptoRow : OpenClaim := { program := "ytcmoffiigpchiaa", sum := "2581a3109fd7cc360507d2f97d062eb206a82442bc613decf4fe83fdc35b425d", func := "recall/recallkeep.Recalled", spec := "recalled", apart := false, narrowed := true }
def RecalledUptoSaid : Prop := recalledUptoRow.holds Try.pinned (OpenSpec.upto recalledSpec)

/-- 'recallkeep.Cut', WHERE WHAT IT READS IS OF BULK AT MOST 1048576: true; the input reads as it did. -/
def cutUptoRow : OpenClaim := { program := "ytcmoffiigpchiaa", sum := "2581a3109fd7cc360507d2f97d062eb206a82442bc613decf4fe83fdc35b425d", func := "recall/recallkeep.Cut", spec := "cut", apart := false, narrowed := true }
def CutUptoSaid : Prop := cutUptoRow.holds Try.pinned (OpenSpec.upto cutSpec)

/-- 'recallkeep.Flipped', WHERE WHAT IT READS IS OF BULK AT MOST 1048576: true; the input reads as it did. -/
def flippedUptoRow : OpenClaim := { program := "ytcmoffiigpchiaa", sum := "2581a3109fd7cc360507d2f97d062eb206a82442bc613decf4fe83fdc35b425d", func := "recall/recallkeep.Flipped", spec := "flipped", apart := false, narrowed := true }
def FlippedUptoSaid : Prop := flippedUptoRow.holds Try.pinned (OpenSpec.upto flippedSpec)

/-- 'recallkeep.Watched', WHERE WHAT IT READS IS OF BULK AT MOST 1048576: true; the input reads as it did. -/
def watchedUptoRow : OpenClaim := { program := "ytcmoffiigpchiaa", sum := "2581a3109fd7cc360507d2f97d062eb206a82442bc613decf4fe83fdc35b425d", func := "recall/recallkeep.Watched", spec := "watched", apart := false, narrowed := true }
def WatchedUptoSaid : Prop := watchedUptoRow.holds Try.pinned (OpenSpec.upto watchedSpec)

end Rows
end Go.Proofs.Ytcmoffiigpchiaa
