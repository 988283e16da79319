/- Rules that came in, read as a list; a rule that came in by value. -/
import Derived.Test.YtnjacobimndnbaaRin
import Derived.Test.YtnjacobimndnbaaRows
namespace Go.Proofs.Ytnjacobimndnbaa
open Go.Joins Go.ChangeShapes Go.WideShapes Go.RowKit Go.Deep
set_option linter.unusedVariables false
set_option linter.unusedSimpArgs false
set_option maxRecDepth 100000

theorem rules_of {H : Type} {enc : TypeId × Value → H} {w : World} {r : Reach} {b0 : Nat} {v : Value} {d : DataW H} {p : List MemPlace} (hv : Value.okWide Try.prog w r b0 22 v)
    (h : DataW.Trod enc Try.prog w 0 (fun _ => true) true 22 v d p) : ∃ (A : Option Addr) (c : Nat) (l : List Rl), v = .slice A l.length c ∧ RulesIn w w.heap.size A c l := by
  obtain ⟨A0, len0, c0, rfl⟩ := okWide_slice Try.underlying22 hv
  obtain ⟨fuel, hf⟩ := h
  obtain ⟨A, c, l, e, h1, h2, h3, _⟩ := rows_cells (α := Rl) (f := Rl.cells) (T := fun _ => True) Try.underlying22 Try.underlying31 (by kernel_rfl) (by kernel_rfl) rfl (fun _ => rfl) (fun q hf => by
    obtain ⟨u0, z0, n0, c0, k0⟩ := hf 0 _ rfl
    obtain ⟨u1, z1, n1, c1, k1⟩ := hf 1 _ rfl
    obtain ⟨u2, z2, n2, c2, k2⟩ := hf 2 _ rfl
    obtain ⟨u3, z3, n3, c3, k3⟩ := hf 3 _ rfl
    obtain ⟨s0, e0, _, _⟩ := DataW.trod_int Try.underlying3 k0
    obtain ⟨s1, e1, _, _⟩ := DataW.trod_string Try.underlying9 k1
    obtain ⟨s2, e2, _, _⟩ := DataW.trod_string Try.underlying9 k2
    obtain ⟨s3, e3, _, _⟩ := DataW.trod_int Try.underlying3 k3
    cases e0; cases e1; cases e2; cases e3
    exact ⟨⟨s0, s1, s2, s3⟩, trivial, at4 (P := fun _ => True) (Q := fun j u => w.cell? (q.add j) = some u) rfl c0 c1 c2 c3⟩) hf
  exact ⟨A, c, l, e, h1, h2, h3⟩

theorem rule_of {H : Type} {enc : TypeId × Value → H} {w : World} {r : Reach} {b0 : Nat} {v : Value} {d : DataW H} {p : List MemPlace} (hv : Value.okWide Try.prog w r b0 31 v)
    (h : DataW.Trod enc Try.prog w 0 (fun _ => true) true 31 v d p) : ∃ x : Rl, v = x.val := by
  obtain ⟨v0, v1, v2, v3, y0, y1, y2, y3, n, rfl, _, _, t0, t1, t2, t3⟩ := open_agg4 Try.underlying31 (by kernel_rfl) (by kernel_rfl) hv h
  obtain ⟨s0, e0, _, _⟩ := DataW.trod_int Try.underlying3 t0
  obtain ⟨s1, e1, _, _⟩ := DataW.trod_string Try.underlying9 t1
  obtain ⟨s2, e2, _, _⟩ := DataW.trod_string Try.underlying9 t2
  obtain ⟨s3, e3, _, _⟩ := DataW.trod_int Try.underlying3 t3
  cases e0; cases e1; cases e2; cases e3
  exact ⟨⟨s0, s1, s2, s3⟩, rfl⟩
end Go.Proofs.Ytnjacobimndnbaa
