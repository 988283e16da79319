/-
  No cell of these rows narrows 'for every input' (looked for: loops, veiled, ifaces, maps, wideKeys, modest, calm, conditions, laid).
  DERIVED. THE GIVEN ROWS OF THIS SEAT. 4 by the template 'for every input the law returns true; each argument reads behind the call as it read before'; 0 by the template 'total and deterministic' (their statements: YtbbcgcinpodhkaaTotals.lean).
  GIVEN WITH THE SEED: the statements are not yours to turn. If you find one false, say at which input.
  Laid BY PROGRAM, IN A SANDBOX (cutbox-rows.mjs): the forced cells as the released guide's own fill.sh prints them over the translation 83773da4b8d8ea39… (all of the seat's roots in one cut). By AI agents, Wed Nov 11 2026. No macro, syntax, notation, axiom, sorry.
-/
import Derived.Test.YtbbcgcinpodhkaaChecked
import GoSem.Claim
import GoSem.ClaimJoined
import GoSem.ClaimMapViews
import Derived.JoinedTies
import Derived.KernelRfl
namespace Go.Proofs.Ytbbcgcinpodhkaa
/- THE CELL 'sum', in the pinned program and in every row, IS THE sha256 OF THE DUMP (.gsa) THAT YtbbcgcinpodhkaaProg.lean LOADS. Nothing in Lean hashes anything: it is a label: what it is worth is what the hold of that sum in a sandbox is worth. -/
noncomputable def Try.pinned : Pinned := { name := "ytbbcgcinpodhkaa", sum := "83773da4b8d8ea398cd5cee113eb7b3a55b6b177bc01f5616cc12a60e9d4de1f", checked := Try.checked }
namespace Rows
def none {H : Type} : Left H := { results := [], args := [] }

/-- 'hydrantlaw11.ShardAdds': WHATEVER THE INPUT: true; the input reads as it did. -/
def shardAddsSpec : ChangeSpec := { name := "shardAdds", fn := fun _ => fun
  | [d1, d2, d3] => { results := [.lit (.bool true)], args := [d1, d2, d3] }
  | _ => none }
def shardAddsRow : OpenClaim := { program := "ytbbcgcinpodhkaa", sum := "83773da4b8d8ea398cd5cee113eb7b3a55b6b177bc01f5616cc12a60e9d4de1f", func := "hydrant/hydrantlaw11.ShardAdds", spec := "shardAdds", apart := false }
def ShardAddsSaid : Prop := shardAddsRow.holds Try.pinned (OpenSpec.ofChange shardAddsSpec)

/-- ITS FALSE NEIGHBOUR: 'it returns false'. Refute it at one input. -/
def shardAddsWrong : ChangeSpec := { name := "shardAdds", fn := fun _ => fun
  | [d1, d2, d3] => { results := [.lit (.bool false)], args := [d1, d2, d3] }
  | _ => none }
def ShardAddsWrongFalsely : Prop := shardAddsRow.holds Try.pinned (OpenSpec.ofChange shardAddsWrong)

/-- 'hydrantlaw11.ShardOne': WHATEVER THE INPUT: true; the input reads as it did. -/
def shardOneSpec : ChangeSpec := { name := "shardOne", fn := fun _ => fun
  | [d1, d2, d3] => { results := [.lit (.bool true)], args := [d1, d2, d3] }
  | _ => none }
def shardOneRow : OpenClaim := { program := "ytbbcgcinpodhkaa", sum := "83773da4b8d8ea398cd5cee113eb7b3a55b6b177bc01f5616cc12a60e9d4de1f", func := "hydrant/hydrantlaw11.ShardOne", spec := "shardOne", apart := false }
def ShardOneSaid : Prop := shardOneRow.holds Try.pinned (OpenSpec.ofChange shardOneSpec)

/-- ITS FALSE NEIGHBOUR: 'it returns false'. Refute it at one input. -/
def shardOneWrong : ChangeSpec := { name := "shardOne", fn := fun _ => fun
  | [d1, d2, d3] => { results := [.lit (.bool false)], args := [d1, d2, d3] }
  | _ => none }
def ShardOneWrongFalsely : Prop := shardOneRow.holds Try.pinned (OpenSpec.ofChange shardOneWrong)

/-- 'hydrantlaw11.ShardOrder': WHATEVER THE INPUT: true; the input reads as it did. -/
def shardOrderSpec : ChangeSpec := { name := "shardOrder", fn := fun _ => fun
  | [d1, d2, d3, d4, d5] => { results := [.lit (.bool true)], args := [d1, d2, d3, d4, d5] }
  | _ => none }
def shardOrderRow : OpenClaim := { program := "ytbbcgcinpodhkaa", sum := "83773da4b8d8ea398cd5cee113eb7b3a55b6b177bc01f5616cc12a60e9d4de1f", func := "hydrant/hydrantlaw11.ShardOrder", spec := "shardOrder", apart := false }
def ShardOrderSaid : Prop := shardOrderRow.holds Try.pinned (OpenSpec.ofChange shardOrderSpec)

/-- ITS FALSE NEIGHBOUR: 'it returns false'. Refute it at one input. -/
def shardOrderWrong : ChangeSpec := { name := "shardOrder", fn := fun _ => fun
  | [d1, d2, d3, d4, d5] => { results := [.lit (.bool false)], args := [d1, d2, d3, d4, d5] }
  | _ => none }
def ShardOrderWrongFalsely : Prop := shardOrderRow.holds Try.pinned (OpenSpec.ofChange shardOrderWrong)

/-- 'hydrantlaw11.ShardMany': WHATEVER THE INPUT: true; the input reads as it did. -/
def shardManySpec : ChangeSpec := { name := "shardMany", fn := fun _ => fun
  | [d1, d2] => { results := [.lit (.bool true)], args := [d1, d2] }
  | _ => none }
def shardManyRow : OpenClaim := { program := "ytbbcgcinpodhkaa", sum := "83773da4b8d8ea398cd5cee113eb7b3a55b6b177bc01f5616cc12a60e9d4de1f", func := "hydrant/hydrantlaw11.ShardMany", spec := "shardMany", apart := false }
def ShardManySaid : Prop := shardManyRow.holds Try.pinned (OpenSpec.ofChange shardManySpec)

/-- ITS FALSE NEIGHBOUR: 'it returns false'. Refute it at one input. -/
def shardManyWrong : ChangeSpec := { name := "shardMany", fn := fun _ => fun
  | [d1, d2] => { results := [.lit (.bool false)], args := [d1, d2] }
  | _ => none }
def ShardManyWrongFalsely : Prop := shardManyRow.holds Try.pinned (OpenSpec.ofChange shardManyWrong)

/- THE SECOND FORM. 'bulk': how many values and letters a reading holds, each counted each time it is reached (what is shared counts as often as it is met; a slice's spare places count too). A statement '..UptoSaid' is the law's where the arguments, and the package variables that the reading takes, are together of bulk at most 1048576: NARROWER than '..Said'. Prove '..Said' where nothing that the law and all that it calls make is longer than what came in: it says more and counts as full. Else prove '..UptoSaid'. A law counts once. -/
mutual
def uptoBulk {H : Type} : DataW H → Nat
  | .lit (.string bytes) => bytes.length + 1
  | .lit _ => 1
  | .nil => 1
  | .ptr d => uptoBulk d + 1
  | .slice elems spare => uptoBulkAll elems + uptoBulkAll spare + 1
  | .agg parts => uptoBulkAll parts + 1
  | .iface _ d => uptoBulk d + 1
  | .map entries => uptoBulkEntries entries + 1
  | .held _ => 1
def uptoBulkAll {H : Type} : List (DataW H) → Nat
  | [] => 0
  | d :: r => uptoBulk d + uptoBulkAll r
def uptoBulkEntries {H : Type} : List (Lit × DataW H) → Nat
  | [] => 0
  | x :: r => uptoBulkEntry x + uptoBulkEntries r
def uptoBulkEntry {H : Type} : Lit × DataW H → Nat
  | (.string bytes, d) => bytes.length + uptoBulk d + 1
  | (_, d) => uptoBulk d + 1
 end
def uptoSmall : (H : Type) → List (DataW H) → Bool := fun _ ds => decide (uptoBulkAll ds ≤ 1048576)
def OpenSpec.upto (s : _root_.Go.ChangeSpec) : _root_.Go.OpenSpec := { _root_.Go.OpenSpec.ofChange s with cond := some uptoSmall }

/-- 'hydrantlaw11.ShardAdds', WHERE WHAT IT READS IS OF BULK AT MOST 1048576: true; the input reads as it did. -/
def shardAddsUptoRow : OpenClaim := { program := "ytbbcgcinpodhkaa", sum := "83773da4b8d8ea398cd5cee113eb7b3a55b6b177bc01f5616cc12a60e9d4de1f", func := "hydrant/hydrantlaw11.ShardAdds", spec := "shardAdds", apart := false, narrowed := true }
def ShardAddsUptoSaid : Prop := shardAddsUptoRow.holds Try.pinned (OpenSpec.upto shardAddsSpec)

/-- 'hydrantlaw11.ShardOne', WHERE WHAT IT READS IS OF BULK AT MOST 1048576: true; the input reads as it did. -/
def shardOneUptoRow : OpenClaim := { program := "ytbbcgcinpodhkaa", sum := "83773da4b8d8ea398cd5cee113eb7b3a55b6b177bc01f5616cc12a60e9d4de1f", func := "hydrant/hydrantlaw11.ShardOne", spec := "shardOne", apart := false, narrowed := true }
def ShardOneUptoSaid : Prop := shardOneUptoRow.holds Try.pinned (OpenSpec.upto shardOneSpec)

/-- 'hydrantlaw11.ShardOrder', WHERE WHAT IT READS IS OF BULK AT MOST 1048576: true; the input reads as it did. -/
def shardOrderUptoRow : OpenClaim := { program := "ytbbcgcinpodhkaa", sum := "83773da4b8d8ea398cd5cee113eb7b3a55b6b177bc01f5616cc12a60e9d4de1f", func := "hydrant/hydrantlaw11.ShardOrder", spec := "shardOrder", apart := false, narrowed := true }
def ShardOrderUptoSaid : Prop := shardOrderUptoRow.holds Try.pinned (OpenSpec.upto shardOrderSpec)

/-- 'hydrantlaw11.ShardMany', WHERE WHAT IT READS IS OF BULK AT MOST 1048576: true; the input reads as it did. -/
def shardManyUptoRow : OpenClaim := { program := "ytbbcgcinpodhkaa", sum := "83773da4b8d8ea398cd5cee113eb7b3a55b6b177bc01f5616cc12a60e9d4de1f", func := "hydrant/hydrantlaw11.ShardMany", spec := "shardMany", apart := false, narrowed := true }
def ShardManyUptoSaid : Prop := shardManyUptoRow.holds Try.pinned (OpenSpec.upto shardManySpec)

end Rows
end Go.Proofs.Ytbbcgcinpodhkaa
