/-
  No cell of these rows narrows 'for every input' (looked for: loops, veiled, ifaces, maps, wideKeys, modest, calm, conditions, laid).
  DERIVED. THE GIVEN ROWS OF THIS SEAT. 5 by the template 'for every input the law returns true; each argument reads behind the call as it read before'; 0 by the template 'total and deterministic' (their statements: YtfljjpkblleflaaTotals.lean).
  GIVEN WITH THE SEED: the statements are not yours to turn. If you find one false, say at which input.
  Laid BY PROGRAM, IN A SANDBOX (cutbox-rows.mjs): the forced cells as the released guide's own fill.sh prints them over the translation 07bf2bb8ea774df0… (all of the seat's roots in one cut). By AI agents, Wed Nov 11 2026. No macro, syntax, notation, axiom, sorry.
-/
import Derived.Test.YtfljjpkblleflaaChecked
import GoSem.Claim
import GoSem.ClaimJoined
import GoSem.ClaimMapViews
import Derived.JoinedTies
import Derived.KernelRfl
namespace Go.Proofs.Ytfljjpkblleflaa
/- THE CELL 'sum', in the pinned program and in every row, IS THE sha256 OF THE DUMP (.gsa) THAT YtfljjpkblleflaaProg.lean LOADS. Nothing in Lean hashes anything: it is a label: what it is worth is what the hold of that sum in a sandbox is worth. -/
noncomputable def Try.pinned : Pinned := { name := "ytfljjpkblleflaa", sum := "07bf2bb8ea774df037f4c50d0a3883c926fe4dbb4293eb3a48a1428bd7303f98", checked := Try.checked }
namespace Rows
def none {H : Type} : Left H := { results := [], args := [] }

/-- 'hydrantlaw04.HostsMatch': WHATEVER THE INPUT: true; the input reads as it did. -/
def hostsMatchSpec : ChangeSpec := { name := "hostsMatch", fn := fun _ => fun
  | [d1, d2] => { results := [.lit (.bool true)], args := [d1, d2] }
  | _ => none }
def hostsMatchRow : OpenClaim := { program := "ytfljjpkblleflaa", sum := "07bf2bb8ea774df037f4c50d0a3883c926fe4dbb4293eb3a48a1428bd7303f98", func := "hydrant/hydrantlaw04.HostsMatch", spec := "hostsMatch", unfollowed := true, recurses := true, apart := false }
def HostsMatchSaid : Prop := hostsMatchRow.holds Try.pinned (OpenSpec.ofChange hostsMatchSpec)

/-- ITS FALSE NEIGHBOUR: 'it returns false'. Refute it at one input. -/
def hostsMatchWrong : ChangeSpec := { name := "hostsMatch", fn := fun _ => fun
  | [d1, d2] => { results := [.lit (.bool false)], args := [d1, d2] }
  | _ => none }
def HostsMatchWrongFalsely : Prop := hostsMatchRow.holds Try.pinned (OpenSpec.ofChange hostsMatchWrong)

/-- 'hydrantlaw04.HostsBetter': WHATEVER THE INPUT: true; the input reads as it did. -/
def hostsBetterSpec : ChangeSpec := { name := "hostsBetter", fn := fun _ => fun
  | [d1, d2, d3, d4] => { results := [.lit (.bool true)], args := [d1, d2, d3, d4] }
  | _ => none }
def hostsBetterRow : OpenClaim := { program := "ytfljjpkblleflaa", sum := "07bf2bb8ea774df037f4c50d0a3883c926fe4dbb4293eb3a48a1428bd7303f98", func := "hydrant/hydrantlaw04.HostsBetter", spec := "hostsBetter", unfollowed := true, recurses := true, apart := false }
def HostsBetterSaid : Prop := hostsBetterRow.holds Try.pinned (OpenSpec.ofChange hostsBetterSpec)

/-- ITS FALSE NEIGHBOUR: 'it returns false'. Refute it at one input. -/
def hostsBetterWrong : ChangeSpec := { name := "hostsBetter", fn := fun _ => fun
  | [d1, d2, d3, d4] => { results := [.lit (.bool false)], args := [d1, d2, d3, d4] }
  | _ => none }
def HostsBetterWrongFalsely : Prop := hostsBetterRow.holds Try.pinned (OpenSpec.ofChange hostsBetterWrong)

/-- 'hydrantlaw04.HostsUnlike': WHATEVER THE INPUT: true; the input reads as it did. -/
def hostsUnlikeSpec : ChangeSpec := { name := "hostsUnlike", fn := fun _ => fun
  | [d1, d2, d3] => { results := [.lit (.bool true)], args := [d1, d2, d3] }
  | _ => none }
def hostsUnlikeRow : OpenClaim := { program := "ytfljjpkblleflaa", sum := "07bf2bb8ea774df037f4c50d0a3883c926fe4dbb4293eb3a48a1428bd7303f98", func := "hydrant/hydrantlaw04.HostsUnlike", spec := "hostsUnlike", unfollowed := true, recurses := true, apart := false }
def HostsUnlikeSaid : Prop := hostsUnlikeRow.holds Try.pinned (OpenSpec.ofChange hostsUnlikeSpec)

/-- ITS FALSE NEIGHBOUR: 'it returns false'. Refute it at one input. -/
def hostsUnlikeWrong : ChangeSpec := { name := "hostsUnlike", fn := fun _ => fun
  | [d1, d2, d3] => { results := [.lit (.bool false)], args := [d1, d2, d3] }
  | _ => none }
def HostsUnlikeWrongFalsely : Prop := hostsUnlikeRow.holds Try.pinned (OpenSpec.ofChange hostsUnlikeWrong)

/-- 'hydrantlaw04.HostsUnder': WHATEVER THE INPUT: true; the input reads as it did. -/
def hostsUnderSpec : ChangeSpec := { name := "hostsUnder", fn := fun _ => fun
  | [d1, d2, d3] => { results := [.lit (.bool true)], args := [d1, d2, d3] }
  | _ => none }
def hostsUnderRow : OpenClaim := { program := "ytfljjpkblleflaa", sum := "07bf2bb8ea774df037f4c50d0a3883c926fe4dbb4293eb3a48a1428bd7303f98", func := "hydrant/hydrantlaw04.HostsUnder", spec := "hostsUnder", unfollowed := true, recurses := true, apart := false }
def HostsUnderSaid : Prop := hostsUnderRow.holds Try.pinned (OpenSpec.ofChange hostsUnderSpec)

/-- ITS FALSE NEIGHBOUR: 'it returns false'. Refute it at one input. -/
def hostsUnderWrong : ChangeSpec := { name := "hostsUnder", fn := fun _ => fun
  | [d1, d2, d3] => { results := [.lit (.bool false)], args := [d1, d2, d3] }
  | _ => none }
def HostsUnderWrongFalsely : Prop := hostsUnderRow.holds Try.pinned (OpenSpec.ofChange hostsUnderWrong)

/-- 'hydrantlaw04.HostsDeep': WHATEVER THE INPUT: true; the input reads as it did. -/
def hostsDeepSpec : ChangeSpec := { name := "hostsDeep", fn := fun _ => fun
  | [d1, d2, d3] => { results := [.lit (.bool true)], args := [d1, d2, d3] }
  | _ => none }
def hostsDeepRow : OpenClaim := { program := "ytfljjpkblleflaa", sum := "07bf2bb8ea774df037f4c50d0a3883c926fe4dbb4293eb3a48a1428bd7303f98", func := "hydrant/hydrantlaw04.HostsDeep", spec := "hostsDeep", unfollowed := true, recurses := true, apart := false }
def HostsDeepSaid : Prop := hostsDeepRow.holds Try.pinned (OpenSpec.ofChange hostsDeepSpec)

/-- ITS FALSE NEIGHBOUR: 'it returns false'. Refute it at one input. -/
def hostsDeepWrong : ChangeSpec := { name := "hostsDeep", fn := fun _ => fun
  | [d1, d2, d3] => { results := [.lit (.bool false)], args := [d1, d2, d3] }
  | _ => none }
def HostsDeepWrongFalsely : Prop := hostsDeepRow.holds Try.pinned (OpenSpec.ofChange hostsDeepWrong)

/- THE SECOND FORM. 'bulk': how many values and letters a reading holds, each counted each time it is reached (what is shared counts as often as it is met; a slice's spare places count too). A statement '..UptoSaid' is the law's where the arguments, and the package variables that the reading takes, are together of bulk at most 1048576: NARROWER than '..Said'. Prove '..Said' where nothing that the law and all that it calls make is longer than what came in: it says more and counts as full. Else prove '..UptoSaid'. A law counts once. -/
mutual
def uptoBulk {H : Type} : DataW H → Nat
  | .lit (.string bytes) => bytes.length + 1
  | .lit _ => 1
  | .nil => 1
  | .ptr d => uptoBulk d + 1
  | .slice elems spare => uptoBulkAll elems + uptoBulkAll spare + 1
  | .agg parts => uptoBulkAll parts + 1
  | .iface _ d => uptoBulk d + 1
  | .map entries => uptoBulkEntries entries + 1
  | .held _ => 1
def uptoBulkAll {H : Type} : List (DataW H) → Nat
  | [] => 0
  | d :: r => uptoBulk d + uptoBulkAll r
def uptoBulkEntries {H : Type} : List (Lit × DataW H) → Nat
  | [] => 0
  | x :: r => uptoBulkEntry x + uptoBulkEntries r
def uptoBulkEntry {H : Type} : Lit × DataW H → Nat
  | (.string bytes, d) => bytes.length + uptoBulk d + 1
  | (_, d) => uptoBulk d + 1
 end
def uptoSmall : (H : Type) → List (DataW H) → Bool := fun _ ds => decide (uptoBulkAll ds ≤ 1048576)
def OpenSpec.upto (s : _root_.Go.ChangeSpec) : _root_.Go.OpenSpec := { _root_.Go.OpenSpec.ofChange s with cond := some uptoSmall }

/-- 'hydrantlaw04.HostsMatch', WHERE WHAT IT READS IS OF BULK AT MOST 1048576: true; the input reads as it did. -/
def hostsMatchUptoRow : OpenClaim := { program := "ytfljjpkblleflaa", sum := "07bf2bb8ea774df037f4c50d0a3883c926fe4dbb4293eb3a48a1428bd7303f98", func := "hydrant/hydrantlaw04.HostsMatch", spec := "hostsMatch", unfollowed := true, recurses := true, apart := false, narrowed := true }
def HostsMatchUptoSaid : Prop := hostsMatchUptoRow.holds Try.pinned (OpenSpec.upto hostsMatchSpec)

/-- 'hydrantlaw04.HostsBetter', WHERE WHAT IT READS IS OF BULK AT MOST 1048576: true; the input reads as it did. -/
def hostsBetterUptoRow : OpenClaim := { program := "ytfljjpkblleflaa", sum := "07bf2bb8ea774df037f4c50d0a3883c926fe4dbb4293eb3a48a1428bd7303f98", func := "hydrant/hydrantlaw04.HostsBetter", spec := "hostsBetter", unfollowed := true, recurses := true, apart := false, narrowed := true }
def HostsBetterUptoSaid : Prop := hostsBetterUptoRow.holds Try.pinned (OpenSpec.upto hostsBetterSpec)

/-- 'hydrantlaw04.HostsUnlike', WHERE WHAT IT READS IS OF BULK AT MOST 1048576: true; the input reads as it did. -/
def hostsUnlikeUptoRow : OpenClaim := { program := "ytfljjpkblleflaa", sum := "07bf2bb8ea774df037f4c50d0a3883c926fe4dbb4293eb3a48a1428bd7303f98", func := "hydrant/hydrantlaw04.HostsUnlike", spec := "hostsUnlike", unfollowed := true, recurses := true, apart := false, narrowed := true }
def HostsUnlikeUptoSaid : Prop := hostsUnlikeUptoRow.holds Try.pinned (OpenSpec.upto hostsUnlikeSpec)

/-- 'hydrantlaw04.HostsUnder', WHERE WHAT IT READS IS OF BULK AT MOST 1048576: true; the input reads as it did. -/
def hostsUnderUptoRow : OpenClaim := { program := "ytfljjpkblleflaa", sum := "07bf2bb8ea774df037f4c50d0a3883c926fe4dbb4293eb3a48a1428bd7303f98", func := "hydrant/hydrantlaw04.HostsUnder", spec := "hostsUnder", unfollowed := true, recurses := true, apart := false, narrowed := true }
def HostsUnderUptoSaid : Prop := hostsUnderUptoRow.holds Try.pinned (OpenSpec.upto hostsUnderSpec)

/-- 'hydrantlaw04.HostsDeep', WHERE WHAT IT READS IS OF BULK AT MOST 1048576: true; the input reads as it did. -/
def hostsDeepUptoRow : OpenClaim := { program := "ytfljjpkblleflaa", sum := "07bf2bb8ea774df037f4c50d0a3883c926fe4dbb4293eb3a48a1428bd7303f98", func := "hydrant/hydrantlaw04.HostsDeep", spec := "hostsDeep", unfollowed := true, recurses := true, apart := false, narrowed := true }
def HostsDeepUptoSaid : Prop := hostsDeepUptoRow.holds Try.pinned (OpenSpec.upto hostsDeepSpec)

end Rows
end Go.Proofs.Ytfljjpkblleflaa
