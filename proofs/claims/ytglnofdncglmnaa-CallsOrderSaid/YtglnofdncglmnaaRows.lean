/-
  No cell of these rows narrows 'for every input' (looked for: loops, veiled, ifaces, maps, wideKeys, modest, calm, conditions, laid).
  DERIVED. THE GIVEN ROWS OF THIS SEAT. 5 by the template 'for every input the law returns true; each argument reads behind the call as it read before'; 0 by the template 'total and deterministic' (their statements: YtglnofdncglmnaaTotals.lean).
  GIVEN WITH THE SEED: the statements are not yours to turn. If you find one false, say at which input.
  Laid BY PROGRAM, IN A SANDBOX (cutbox-rows.mjs): the forced cells as the released guide's own fill.sh prints them over the translation 7c8b48aa9ccd8c13… (all of the seat's roots in one cut). By AI agents, Wed Nov 11 2026. No macro, syntax, notation, axiom, sorry.
-/
import Derived.Test.YtglnofdncglmnaaChecked
import GoSem.Claim
import GoSem.ClaimJoined
import GoSem.ClaimMapViews
import Derived.JoinedTies
import Derived.KernelRfl
namespace Go.Proofs.Ytglnofdncglmnaa
/- THE CELL 'sum', in the pinned program and in every row, IS THE sha256 OF THE DUMP (.gsa) THAT YtglnofdncglmnaaProg.lean LOADS. Nothing in Lean hashes anything: it is a label: what it is worth is what the hold of that sum in a sandbox is worth. -/
noncomputable def Try.pinned : Pinned := { name := "ytglnofdncglmnaa", sum := "7c8b48aa9ccd8c1377b9b633215e5995360afe9680c2d5522f95b58e3caecc72", checked := Try.checked }
namespace Rows
def none {H : Type} : Left H := { results := [], args := [] }

/-- 'hydrantlaw10.CallsOf': WHATEVER THE INPUT: true; the input reads as it did. -/
def callsOfSpec : ChangeSpec := { name := "callsOf", fn := fun _ => fun
  | [d] => { results := [.lit (.bool true)], args := [d] }
  | _ => none }
def callsOfRow : OpenClaim := { program := "ytglnofdncglmnaa", sum := "7c8b48aa9ccd8c1377b9b633215e5995360afe9680c2d5522f95b58e3caecc72", func := "hydrant/hydrantlaw10.CallsOf", spec := "callsOf", unfollowed := true, recurses := true, plainKeys := false, apart := false }
def CallsOfSaid : Prop := callsOfRow.holds Try.pinned (OpenSpec.ofChange callsOfSpec)

/-- ITS FALSE NEIGHBOUR: 'it returns false'. Refute it at one input. -/
def callsOfWrong : ChangeSpec := { name := "callsOf", fn := fun _ => fun
  | [d] => { results := [.lit (.bool false)], args := [d] }
  | _ => none }
def CallsOfWrongFalsely : Prop := callsOfRow.holds Try.pinned (OpenSpec.ofChange callsOfWrong)

/-- 'hydrantlaw10.CallsOrder': WHATEVER THE INPUT: true; the input reads as it did. -/
def callsOrderSpec : ChangeSpec := { name := "callsOrder", fn := fun _ => fun
  | [d1, d2, d3] => { results := [.lit (.bool true)], args := [d1, d2, d3] }
  | _ => none }
def callsOrderRow : OpenClaim := { program := "ytglnofdncglmnaa", sum := "7c8b48aa9ccd8c1377b9b633215e5995360afe9680c2d5522f95b58e3caecc72", func := "hydrant/hydrantlaw10.CallsOrder", spec := "callsOrder", unfollowed := true, recurses := true, plainKeys := false, apart := false }
def CallsOrderSaid : Prop := callsOrderRow.holds Try.pinned (OpenSpec.ofChange callsOrderSpec)

/-- ITS FALSE NEIGHBOUR: 'it returns false'. Refute it at one input. -/
def callsOrderWrong : ChangeSpec := { name := "callsOrder", fn := fun _ => fun
  | [d1, d2, d3] => { results := [.lit (.bool false)], args := [d1, d2, d3] }
  | _ => none }
def CallsOrderWrongFalsely : Prop := callsOrderRow.holds Try.pinned (OpenSpec.ofChange callsOrderWrong)

/-- 'hydrantlaw10.CallsGo': WHATEVER THE INPUT: true; the input reads as it did. -/
def callsGoSpec : ChangeSpec := { name := "callsGo", fn := fun _ => fun
  | [d] => { results := [.lit (.bool true)], args := [d] }
  | _ => none }
def callsGoRow : OpenClaim := { program := "ytglnofdncglmnaa", sum := "7c8b48aa9ccd8c1377b9b633215e5995360afe9680c2d5522f95b58e3caecc72", func := "hydrant/hydrantlaw10.CallsGo", spec := "callsGo", unfollowed := true, recurses := true, plainKeys := false, apart := false }
def CallsGoSaid : Prop := callsGoRow.holds Try.pinned (OpenSpec.ofChange callsGoSpec)

/-- ITS FALSE NEIGHBOUR: 'it returns false'. Refute it at one input. -/
def callsGoWrong : ChangeSpec := { name := "callsGo", fn := fun _ => fun
  | [d] => { results := [.lit (.bool false)], args := [d] }
  | _ => none }
def CallsGoWrongFalsely : Prop := callsGoRow.holds Try.pinned (OpenSpec.ofChange callsGoWrong)

/-- 'hydrantlaw10.CallsFront': WHATEVER THE INPUT: true; the input reads as it did. -/
def callsFrontSpec : ChangeSpec := { name := "callsFront", fn := fun _ => fun
  | [d1, d2] => { results := [.lit (.bool true)], args := [d1, d2] }
  | _ => none }
def callsFrontRow : OpenClaim := { program := "ytglnofdncglmnaa", sum := "7c8b48aa9ccd8c1377b9b633215e5995360afe9680c2d5522f95b58e3caecc72", func := "hydrant/hydrantlaw10.CallsFront", spec := "callsFront", unfollowed := true, recurses := true, plainKeys := false, apart := false }
def CallsFrontSaid : Prop := callsFrontRow.holds Try.pinned (OpenSpec.ofChange callsFrontSpec)

/-- ITS FALSE NEIGHBOUR: 'it returns false'. Refute it at one input. -/
def callsFrontWrong : ChangeSpec := { name := "callsFront", fn := fun _ => fun
  | [d1, d2] => { results := [.lit (.bool false)], args := [d1, d2] }
  | _ => none }
def CallsFrontWrongFalsely : Prop := callsFrontRow.holds Try.pinned (OpenSpec.ofChange callsFrontWrong)

/-- 'hydrantlaw10.CallsCount': WHATEVER THE INPUT: true; the input reads as it did. -/
def callsCountSpec : ChangeSpec := { name := "callsCount", fn := fun _ => fun
  | [d] => { results := [.lit (.bool true)], args := [d] }
  | _ => none }
def callsCountRow : OpenClaim := { program := "ytglnofdncglmnaa", sum := "7c8b48aa9ccd8c1377b9b633215e5995360afe9680c2d5522f95b58e3caecc72", func := "hydrant/hydrantlaw10.CallsCount", spec := "callsCount", unfollowed := true, recurses := true, plainKeys := false, apart := false }
def CallsCountSaid : Prop := callsCountRow.holds Try.pinned (OpenSpec.ofChange callsCountSpec)

/-- ITS FALSE NEIGHBOUR: 'it returns false'. Refute it at one input. -/
def callsCountWrong : ChangeSpec := { name := "callsCount", fn := fun _ => fun
  | [d] => { results := [.lit (.bool false)], args := [d] }
  | _ => none }
def CallsCountWrongFalsely : Prop := callsCountRow.holds Try.pinned (OpenSpec.ofChange callsCountWrong)

/- THE SECOND FORM. 'bulk': how many values and letters a reading holds, each counted each time it is reached (what is shared counts as often as it is met; a slice's spare places count too). A statement '..UptoSaid' is the law's where the arguments, and the package variables that the reading takes, are together of bulk at most 1048576: NARROWER than '..Said'. Prove '..Said' where nothing that the law and all that it calls make is longer than what came in: it says more and counts as full. Else prove '..UptoSaid'. A law counts once. -/
mutual
def uptoBulk {H : Type} : DataW H → Nat
  | .lit (.string bytes) => bytes.length + 1
  | .lit _ => 1
  | .nil => 1
  | .ptr d => uptoBulk d + 1
  | .slice elems spare => uptoBulkAll elems + uptoBulkAll spare + 1
  | .agg parts => uptoBulkAll parts + 1
  | .iface _ d => uptoBulk d + 1
  | .map entries => uptoBulkEntries entries + 1
  | .held _ => 1
def uptoBulkAll {H : Type} : List (DataW H) → Nat
  | [] => 0
  | d :: r => uptoBulk d + uptoBulkAll r
def uptoBulkEntries {H : Type} : List (Lit × DataW H) → Nat
  | [] => 0
  | x :: r => uptoBulkEntry x + uptoBulkEntries r
def uptoBulkEntry {H : Type} : Lit × DataW H → Nat
  | (.string bytes, d) => bytes.length + uptoBulk d + 1
  | (_, d) => uptoBulk d + 1
 end
def uptoSmall : (H : Type) → List (DataW H) → Bool := fun _ ds => decide (uptoBulkAll ds ≤ 1048576)
def OpenSpec.upto (s : _root_.Go.ChangeSpec) : _root_.Go.OpenSpec := { _root_.Go.OpenSpec.ofChange s with cond := some uptoSmall }

/-- 'hydrantlaw10.CallsOf', WHERE WHAT IT READS IS OF BULK AT MOST 1048576: true; the input reads as it did. -/
def callsOfUptoRow : OpenClaim := { program := "ytglnofdncglmnaa", sum := "7c8b48aa9ccd8c1377b9b633215e5995360afe9680c2d5522f95b58e3caecc72", func := "hydrant/hydrantlaw10.CallsOf", spec := "callsOf", unfollowed := true, recurses := true, plainKeys := false, apart := false, narrowed := true }
def CallsOfUptoSaid : Prop := callsOfUptoRow.holds Try.pinned (OpenSpec.upto callsOfSpec)

/-- 'hydrantlaw10.CallsOrder', WHERE WHAT IT READS IS OF BULK AT MOST 1048576: true; the input reads as it did. -/
def callsOrderUptoRow : OpenClaim := { program := "ytglnofdncglmnaa", sum := "7c8b48aa9ccd8c1377b9b633215e5995360afe9680c2d5522f95b58e3caecc72", func := "hydrant/hydrantlaw10.CallsOrder", spec := "callsOrder", unfollowed := true, recurses := true, plainKeys := false, apart := false, narrowed := true }
def CallsOrderUptoSaid : Prop := callsOrderUptoRow.holds Try.pinned (OpenSpec.upto callsOrderSpec)

/-- 'hydrantlaw10.CallsGo', WHERE WHAT IT READS IS OF BULK AT MOST 1048576: true; the input reads as it did. -/
def callsGoUptoRow : OpenClaim := { program := "ytglnofdncglmnaa", sum := "7c8b48aa9ccd8c1377b9b633215e5995360afe9680c2d5522f95b58e3caecc72", func := "hydrant/hydrantlaw10.CallsGo", spec := "callsGo", unfollowed := true, recurses := true, plainKeys := false, apart := false, narrowed := true }
def CallsGoUptoSaid : Prop := callsGoUptoRow.holds Try.pinned (OpenSpec.upto callsGoSpec)

/-- 'hydrantlaw10.CallsFront', WHERE WHAT IT READS IS OF BULK AT MOST 1048576: true; the input reads as it did. -/
def callsFrontUptoRow : OpenClaim := { program := "ytglnofdncglmnaa", sum := "7c8b48aa9ccd8c1377b9b633215e5995360afe9680c2d5522f95b58e3caecc72", func := "hydrant/hydrantlaw10.CallsFront", spec := "callsFront", unfollowed := true, recurses := true, plainKeys := false, apart := false, narrowed := true }
def CallsFrontUptoSaid : Prop := callsFrontUptoRow.holds Try.pinned (OpenSpec.upto callsFrontSpec)

/-- 'hydrantlaw10.CallsCount', WHERE WHAT IT READS IS OF BULK AT MOST 1048576: true; the input reads as it did. -/
def callsCountUptoRow : OpenClaim := { program := "ytglnofdncglmnaa", sum := "7c8b48aa9ccd8c1377b9b633215e5995360afe9680c2d5522f95b58e3caecc72", func := "hydrant/hydrantlaw10.CallsCount", spec := "callsCount", unfollowed := true, recurses := true, plainKeys := false, apart := false, narrowed := true }
def CallsCountUptoSaid : Prop := callsCountUptoRow.holds Try.pinned (OpenSpec.upto callsCountSpec)

end Rows
end Go.Proofs.Ytglnofdncglmnaa
