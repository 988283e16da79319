/- Rows of numbers that a call makes, and hands back with an error's number. -/
import Derived.Test.YtbbcgcinpodhkaaOwn
import Derived.Test.YtbbcgcinpodhkaaRows
import Derived.ProofKit
import Derived.Below
import Derived.RegionTactic
import Derived.Deep.LoopGhost
namespace Go.Proofs.Ytbbcgcinpodhkaa
open Go.RowKit
set_option linter.unusedVariables false
set_option linter.unusedSimpArgs false
set_option maxRecDepth 100000

/-- A row of numbers of the call's own, made since w. -/
def Outs (E : Nat) (q : IntKind) (w wi : World) (out : Value) (xs : List Int) : Prop := w.grownBy wi none ∧ Own E w.heap.size wi out (xs.map (Value.int q))
theorem Outs.app {E : Nat} {q : IntKind} {w wi wj : World} {out out' : Value} {xs ys : List Int} (h : Outs E q w wi out xs) (ho : Own E w.heap.size wj out' (ys.map (Value.int q))) (g : wi.grownBy wj out.ownBlock) : Outs E q w wj out' ys := by
  refine ⟨?_, ho⟩
  rcases ho' : out.ownBlock with _ | k
  · rw [ho'] at g; exact grownBy_trans h.1 g
  · rw [ho'] at g; exact grownBy_over h.1 g (h.2.lt k ho').1
theorem Outs.below {E : Nat} {q : IntKind} {w w' : World} {out : Value} {xs : List Int} (h : Outs E q w w' out xs) : Below w.heap.size w w' := (Below.refl _ _).grown h.1 (Nat.le_refl _) (fun k e => by cases e)
/-- The call answers a list of numbers of one kind, and an error's number. -/
def Wrote (w : World) (q : IntKind) (p : List Int × Int) (e : Ending) (w' : World) : Prop :=
  ∃ A c, e = .returned (.tuple #[.slice A p.1.length c, .int .i64 p.2]) ∧ Reads w' w'.heap.size A (p.1.map (Value.int q)) ∧ p.1.length ≤ c ∧ c ≤ maxLen ∧ Below w.heap.size w w'
theorem own_le {E base : Nat} {w : World} {A : Option Addr} {n c : Nat} {xs : List Value} (h : Own E base w (.slice A n c) xs) : n ≤ c ∧ c ≤ maxLen := by
  obtain ⟨_, h⟩ := h
  rcases h with ⟨hv, h0⟩ | ⟨g, cap, cur, hv, _, hh, h1, h2, _⟩
  · cases hv
    exact ⟨Nat.le_refl _, by simp [maxLen]⟩
  · cases hv
    exact ⟨h1, h2⟩
theorem Outs.wrote {E : Nat} {q : IntKind} {w w' : World} {out : Value} {xs : List Int} {er : Int} (h : Outs E q w w' out xs) : Wrote w q (xs, er) (.returned (.tuple #[out, .int .i64 er])) w' := by
  obtain ⟨A, n, c, rfl⟩ := own_form h.2
  obtain ⟨A', c', e⟩ := Own.slice h.2
  cases e
  have hle := own_le h.2
  rw [List.length_map] at hle
  exact ⟨A, c, by rw [List.length_map], Own.reads h.2, hle.1, hle.2, h.below⟩
theorem wrote_nil {q : IntKind} {w w' : World} {er : Int} (h : Below w.heap.size w w') : Wrote w q ([], er) (.returned (.tuple #[.slice none 0 0, .int .i64 er])) w' :=
  ⟨none, 0, rfl, fun hn => absurd hn (by simp), Nat.le_refl _, by simp [maxLen], h⟩
def I64 (x : Int) : Prop := -9223372036854775808 ≤ x ∧ x < 9223372036854775808
theorem i64_of {x : Int} (h : (Lit.int .i64 x).wf = true) : I64 x := by
  have h' : IntKind.i64.min ≤ x ∧ x ≤ 9223372036854775807 := by simpa [Lit.wf] using h
  have hm : IntKind.i64.min = -9223372036854775808 := by decide
  rw [hm] at h'
  unfold I64
  omega
end Go.Proofs.Ytbbcgcinpodhkaa
