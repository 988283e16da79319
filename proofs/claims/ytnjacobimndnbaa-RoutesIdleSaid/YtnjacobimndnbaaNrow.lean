/- Rows of texts that a call made: what a call that answers one says. -/
import Derived.Test.YtnjacobimndnbaaNsay
import Derived.Test.YtnjacobimndnbaaOwn
import Derived.Test.YtnjacobimndnbaaRows
import Derived.ProofKit
import Derived.Below
import Derived.Maps.AppendAt
namespace Go.Proofs.Ytnjacobimndnbaa
open Go.RowKit
set_option linter.unusedVariables false
set_option linter.unusedSimpArgs false
set_option maxRecDepth 100000

theorem str_info : (Try.prog.info? 9).map (fun i => (i.zero, i.size, i.bytes)) = some (some (.string ⟨#[]⟩), 1, 16) := by kernel_rfl

/-- The call answers a row of its own of just these texts; nothing that was there has turned. -/
def RowOf (w : World) (xs : List ByteArray) (e : Ending) (w' : World) : Prop :=
  ∃ v, e = .returned v ∧ Go.Proofs.Ytnjacobimndnbaa.Own 9 w.heap.size w' v (xs.map Value.string) ∧ Below w.heap.size w w'

theorem ownsRow_less {W : World} {b b' : Nat} {e : TypeId} {size : Nat} {v : Value} {n : Nat} {xs : List Value} (h : W.ownsRow b e size v n xs) (hb : b' ≤ b) : W.ownsRow b' e size v n xs := by
  obtain ⟨h1, h2⟩ := h
  refine ⟨h1, ?_⟩
  rcases h2 with h2 | ⟨g, cap, cur, hv, hg, r⟩
  · exact Or.inl h2
  · exact Or.inr ⟨g, cap, cur, hv, by omega, r⟩
end Go.Proofs.Ytnjacobimndnbaa
