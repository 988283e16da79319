/-
  No cell of these rows narrows 'for every input' (looked for: loops, veiled, ifaces, maps, wideKeys, modest, calm, conditions, laid).
  DERIVED. THE GIVEN ROWS OF THIS SEAT. 5 by the template 'for every input the law returns true; each argument reads behind the call as it read before'; 0 by the template 'total and deterministic' (their statements: YthmpgmgmbdmniaaTotals.lean).
  GIVEN WITH THE SEED: the statements are not yours to turn. If you find one false, say at which input.
  Laid BY PROGRAM, IN A SANDBOX (cutbox-rows.mjs): the forced cells as the released guide's own fill.sh prints them over the translation 7e15511d7479ae23… (all of the seat's roots in one cut). By AI agents, Wed Nov 11 2026. No macro, syntax, notation, axiom, sorry.
-/
import Derived.Test.YthmpgmgmbdmniaaChecked
import GoSem.Claim
import GoSem.ClaimJoined
import GoSem.ClaimMapViews
import Derived.JoinedTies
import Derived.KernelRfl
namespace Go.Proofs.Ythmpgmgmbdmniaa
/- THE CELL 'sum', in the pinned program and in every row, IS THE sha256 OF THE DUMP (.gsa) THAT YthmpgmgmbdmniaaProg.lean LOADS. Nothing in Lean hashes anything: it is a label: what it is worth is what the hold of that sum in a sandbox is worth. -/
noncomputable def Try.pinned : Pinned := { name := "ythmpgmgmbdmniaa", sum := "7e15511d7479ae2334e30a624e310d8991a4cfee412e192da0cfb03618669d93", checked := Try.checked }
namespace Rows
def none {H : Type} : Left H := { results := [], args := [] }

/-- 'hydrantlaw01.TagWords': WHATEVER THE INPUT: true; the input reads as it did. -/
def tagWordsSpec : ChangeSpec := { name := "tagWords", fn := fun _ => fun
  | [d1, d2, d3] => { results := [.lit (.bool true)], args := [d1, d2, d3] }
  | _ => none }
def tagWordsRow : OpenClaim := { program := "ythmpgmgmbdmniaa", sum := "7e15511d7479ae2334e30a624e310d8991a4cfee412e192da0cfb03618669d93", func := "hydrant/hydrantlaw01.TagWords", spec := "tagWords", apart := false }
def TagWordsSaid : Prop := tagWordsRow.holds Try.pinned (OpenSpec.ofChange tagWordsSpec)

/-- ITS FALSE NEIGHBOUR: 'it returns false'. Refute it at one input. -/
def tagWordsWrong : ChangeSpec := { name := "tagWords", fn := fun _ => fun
  | [d1, d2, d3] => { results := [.lit (.bool false)], args := [d1, d2, d3] }
  | _ => none }
def TagWordsWrongFalsely : Prop := tagWordsRow.holds Try.pinned (OpenSpec.ofChange tagWordsWrong)

/-- 'hydrantlaw01.TagBack': WHATEVER THE INPUT: true; the input reads as it did. -/
def tagBackSpec : ChangeSpec := { name := "tagBack", fn := fun _ => fun
  | [d1, d2, d3] => { results := [.lit (.bool true)], args := [d1, d2, d3] }
  | _ => none }
def tagBackRow : OpenClaim := { program := "ythmpgmgmbdmniaa", sum := "7e15511d7479ae2334e30a624e310d8991a4cfee412e192da0cfb03618669d93", func := "hydrant/hydrantlaw01.TagBack", spec := "tagBack", apart := false }
def TagBackSaid : Prop := tagBackRow.holds Try.pinned (OpenSpec.ofChange tagBackSpec)

/-- ITS FALSE NEIGHBOUR: 'it returns false'. Refute it at one input. -/
def tagBackWrong : ChangeSpec := { name := "tagBack", fn := fun _ => fun
  | [d1, d2, d3] => { results := [.lit (.bool false)], args := [d1, d2, d3] }
  | _ => none }
def TagBackWrongFalsely : Prop := tagBackRow.holds Try.pinned (OpenSpec.ofChange tagBackWrong)

/-- 'hydrantlaw01.TagAnother': WHATEVER THE INPUT: true; the input reads as it did. -/
def tagAnotherSpec : ChangeSpec := { name := "tagAnother", fn := fun _ => fun
  | [d1, d2, d3] => { results := [.lit (.bool true)], args := [d1, d2, d3] }
  | _ => none }
def tagAnotherRow : OpenClaim := { program := "ythmpgmgmbdmniaa", sum := "7e15511d7479ae2334e30a624e310d8991a4cfee412e192da0cfb03618669d93", func := "hydrant/hydrantlaw01.TagAnother", spec := "tagAnother", apart := false }
def TagAnotherSaid : Prop := tagAnotherRow.holds Try.pinned (OpenSpec.ofChange tagAnotherSpec)

/-- ITS FALSE NEIGHBOUR: 'it returns false'. Refute it at one input. -/
def tagAnotherWrong : ChangeSpec := { name := "tagAnother", fn := fun _ => fun
  | [d1, d2, d3] => { results := [.lit (.bool false)], args := [d1, d2, d3] }
  | _ => none }
def TagAnotherWrongFalsely : Prop := tagAnotherRow.holds Try.pinned (OpenSpec.ofChange tagAnotherWrong)

/-- 'hydrantlaw01.TagSteps': WHATEVER THE INPUT: true; the input reads as it did. -/
def tagStepsSpec : ChangeSpec := { name := "tagSteps", fn := fun _ => fun
  | [d1, d2, d3] => { results := [.lit (.bool true)], args := [d1, d2, d3] }
  | _ => none }
def tagStepsRow : OpenClaim := { program := "ythmpgmgmbdmniaa", sum := "7e15511d7479ae2334e30a624e310d8991a4cfee412e192da0cfb03618669d93", func := "hydrant/hydrantlaw01.TagSteps", spec := "tagSteps", apart := false }
def TagStepsSaid : Prop := tagStepsRow.holds Try.pinned (OpenSpec.ofChange tagStepsSpec)

/-- ITS FALSE NEIGHBOUR: 'it returns false'. Refute it at one input. -/
def tagStepsWrong : ChangeSpec := { name := "tagSteps", fn := fun _ => fun
  | [d1, d2, d3] => { results := [.lit (.bool false)], args := [d1, d2, d3] }
  | _ => none }
def TagStepsWrongFalsely : Prop := tagStepsRow.holds Try.pinned (OpenSpec.ofChange tagStepsWrong)

/-- 'hydrantlaw01.TagOrder': WHATEVER THE INPUT: true; the input reads as it did. -/
def tagOrderSpec : ChangeSpec := { name := "tagOrder", fn := fun _ => fun
  | [d1, d2, d3, d4] => { results := [.lit (.bool true)], args := [d1, d2, d3, d4] }
  | _ => none }
def tagOrderRow : OpenClaim := { program := "ythmpgmgmbdmniaa", sum := "7e15511d7479ae2334e30a624e310d8991a4cfee412e192da0cfb03618669d93", func := "hydrant/hydrantlaw01.TagOrder", spec := "tagOrder", apart := false }
def TagOrderSaid : Prop := tagOrderRow.holds Try.pinned (OpenSpec.ofChange tagOrderSpec)

/-- ITS FALSE NEIGHBOUR: 'it returns false'. Refute it at one input. -/
def tagOrderWrong : ChangeSpec := { name := "tagOrder", fn := fun _ => fun
  | [d1, d2, d3, d4] => { results := [.lit (.bool false)], args := [d1, d2, d3, d4] }
  | _ => none }
def TagOrderWrongFalsely : Prop := tagOrderRow.holds Try.pinned (OpenSpec.ofChange tagOrderWrong)

/- THE SECOND FORM. 'bulk': how many values and letters a reading holds, each counted each time it is reached (what is shared counts as often as it is met; a slice's spare places count too). A statement '..UptoSaid' is the law's where the arguments, and the package variables that the reading takes, are together of bulk at most 1048576: NARROWER than '..Said'. Prove '..Said' where nothing that the law and all that it calls make is longer than what came in: it says more and counts as full. Else prove '..UptoSaid'. A law counts once. -/
mutual
def uptoBulk {H : Type} : DataW H → Nat
  | .lit (.string bytes) => bytes.length + 1
  | .lit _ => 1
  | .nil => 1
  | .ptr d => uptoBulk d + 1
  | .slice elems spare => uptoBulkAll elems + uptoBulkAll spare + 1
  | .agg parts => uptoBulkAll parts + 1
  | .iface _ d => uptoBulk d + 1
  | .map entries => uptoBulkEntries entries + 1
  | .held _ => 1
def uptoBulkAll {H : Type} : List (DataW H) → Nat
  | [] => 0
  | d :: r => uptoBulk d + uptoBulkAll r
def uptoBulkEntries {H : Type} : List (Lit × DataW H) → Nat
  | [] => 0
  | x :: r => uptoBulkEntry x + uptoBulkEntries r
def uptoBulkEntry {H : Type} : Lit × DataW H → Nat
  | (.string bytes, d) => bytes.length + uptoBulk d + 1
  | (_, d) => uptoBulk d + 1
 end
def uptoSmall : (H : Type) → List (DataW H) → Bool := fun _ ds => decide (uptoBulkAll ds ≤ 1048576)
def OpenSpec.upto (s : _root_.Go.ChangeSpec) : _root_.Go.OpenSpec := { _root_.Go.OpenSpec.ofChange s with cond := some uptoSmall }

/-- 'hydrantlaw01.TagWords', WHERE WHAT IT READS IS OF BULK AT MOST 1048576: true; the input reads as it did. -/
def tagWordsUptoRow : OpenClaim := { program := "ythmpgmgmbdmniaa", sum := "7e15511d7479ae2334e30a624e310d8991a4cfee412e192da0cfb03618669d93", func := "hydrant/hydrantlaw01.TagWords", spec := "tagWords", apart := false, narrowed := true }
def TagWordsUptoSaid : Prop := tagWordsUptoRow.holds Try.pinned (OpenSpec.upto tagWordsSpec)

/-- 'hydrantlaw01.TagBack', WHERE WHAT IT READS IS OF BULK AT MOST 1048576: true; the input reads as it did. -/
def tagBackUptoRow : OpenClaim := { program := "ythmpgmgmbdmniaa", sum := "7e15511d7479ae2334e30a624e310d8991a4cfee412e192da0cfb03618669d93", func := "hydrant/hydrantlaw01.TagBack", spec := "tagBack", apart := false, narrowed := true }
def TagBackUptoSaid : Prop := tagBackUptoRow.holds Try.pinned (OpenSpec.upto tagBackSpec)

/-- 'hydrantlaw01.TagAnother', WHERE WHAT IT READS IS OF BULK AT MOST 1048576: true; the input reads as it did. -/
def tagAnotherUptoRow : OpenClaim := { program := "ythmpgmgmbdmniaa", sum := "7e15511d7479ae2334e30a624e310d8991a4cfee412e192da0cfb03618669d93", func := "hydrant/hydrantlaw01.TagAnother", spec := "tagAnother", apart := false, narrowed := true }
def TagAnotherUptoSaid : Prop := tagAnotherUptoRow.holds Try.pinned (OpenSpec.upto tagAnotherSpec)

/-- 'hydrantlaw01.TagSteps', WHERE WHAT IT READS IS OF BULK AT MOST 1048576: true; the input reads as it did. -/
def tagStepsUptoRow : OpenClaim := { program := "ythmpgmgmbdmniaa", sum := "7e15511d7479ae2334e30a624e310d8991a4cfee412e192da0cfb03618669d93", func := "hydrant/hydrantlaw01.TagSteps", spec := "tagSteps", apart := false, narrowed := true }
def TagStepsUptoSaid : Prop := tagStepsUptoRow.holds Try.pinned (OpenSpec.upto tagStepsSpec)

/-- 'hydrantlaw01.TagOrder', WHERE WHAT IT READS IS OF BULK AT MOST 1048576: true; the input reads as it did. -/
def tagOrderUptoRow : OpenClaim := { program := "ythmpgmgmbdmniaa", sum := "7e15511d7479ae2334e30a624e310d8991a4cfee412e192da0cfb03618669d93", func := "hydrant/hydrantlaw01.TagOrder", spec := "tagOrder", apart := false, narrowed := true }
def TagOrderUptoSaid : Prop := tagOrderUptoRow.holds Try.pinned (OpenSpec.upto tagOrderSpec)

end Rows
end Go.Proofs.Ythmpgmgmbdmniaa
