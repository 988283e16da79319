/- Rows of rows of numbers that came in, read as plain data. -/
import Derived.Test.YtbbcgcinpodhkaaFin
import Derived.Test.YtbbcgcinpodhkaaRows
import Derived.Lib.SmallJoins
import Derived.Deep.Slices
import Derived.Deep.Fields
import Derived.ChangeSame
namespace Go.Proofs.Ytbbcgcinpodhkaa
open Go.Joins Go.ChangeShapes Go.WideShapes Go.RowKit Go.Deep
set_option linter.unusedVariables false
set_option linter.unusedSimpArgs false
set_option maxRecDepth 100000

section
variable {H : Type} {enc : TypeId × Value → H} {w : World} {q : IntKind} {t e b : TypeId}
theorem row_cells (he : Try.prog.underlying e = some (.slice b)) (hb : Try.prog.underlying b = some (.int q)) (hc : Try.prog.cellsOf b = 1) {fuel : Nat} {v : Value} {x : DataW H × List MemPlace} (h : DataW.trod enc Try.prog w 0 (fun _ => true) true fuel e [v] = some x) : ∃ r : Rw, v = r.cell ∧ RwIn q w w.heap.size r := by
  have key : ∀ (A : Option Addr) (len c : Nat), v = .slice A len c → ∃ r : Rw, v = r.cell ∧ RwIn q w w.heap.size r := by
    rintro A len c rfl
    have hT : DataW.Trod enc Try.prog w 0 (fun _ => true) true e (.slice A len c) x.1 x.2 := ⟨fuel, h⟩
    obtain ⟨xs, rfl, h1, h2, h3, h4, _⟩ := intsIn_of he hb hc hT
    exact ⟨⟨A, c, xs⟩, rfl, h1, h2, h3, h4⟩
  rcases open_slice he h with ⟨h0, _⟩ | ⟨a, len, cap, m, n, D, Pl, h0, _⟩
  · simp at h0
    exact key none 0 0 h0
  · simp at h0
    exact key (some a) len cap h0
theorem grid_cells (ht : Try.prog.underlying t = some (.slice e)) (hce : Try.prog.cellsOf e = 1) (he : Try.prog.underlying e = some (.slice b)) (hb : Try.prog.underlying b = some (.int q)) (hc : Try.prog.cellsOf b = 1) {fuel : Nat} {v : Value} {x : DataW H × List MemPlace}
    (h : DataW.trod enc Try.prog w 0 (fun _ => true) true fuel t [v] = some x) : ∃ (A : Option Addr) (c : Nat) (rs : List Rw), v = .slice A rs.length c ∧ GridIn q w A c rs := by
  rcases open_slice ht h with ⟨h0, _⟩ | ⟨a, len, cap, m, n, D, Pl, h0, _, hl, hm, hmm, _, hi⟩
  · cases h0
    exact ⟨none, 0, [], rfl, GridIn.nil⟩
  · cases h0
    rw [if_pos rfl] at hmm
    obtain ⟨l, hlen, hq⟩ := list_of (Q := fun i (r : Rw) => w.cell? (a.add i) = some r.cell ∧ RwIn q w w.heap.size r) len fun i hi' => by
      obtain ⟨cs', hcs, ht'⟩ := hi i (by omega)
      rw [hce, Nat.mul_one] at hcs
      obtain ⟨_, hcl, hat⟩ := World.cells?_some hcs
      obtain ⟨v', rfl⟩ : ∃ v', cs' = [v'] := by
        match cs', hcl with
        | [v'], _ => exact ⟨v', rfl⟩
      obtain ⟨r, rfl, hr⟩ := row_cells he hb hc ht'
      have h1 := hat 0 (by omega)
      rw [Addr.add_zero'] at h1
      exact ⟨r, by rw [h1]; rfl, hr⟩
    refine ⟨some a, cap, l, by rw [hlen], ⟨fun hn => ⟨a, rfl, ?_, fun j u hu => ?_⟩, by omega, hm, fun r hr => ?_⟩⟩
    · rw [List.length_map] at hn
      have hz := (hq 0 _ (List.getElem?_eq_getElem hn)).1
      have := World.block_lt_of_cell? w _ hz
      rwa [block_of_add] at this
    · rw [List.getElem?_map] at hu
      obtain ⟨z, hz, rfl⟩ := Option.map_eq_some_iff.1 hu
      exact (hq j z hz).1
    · obtain ⟨i, hi, rfl⟩ := List.getElem_of_mem hr
      exact (hq i _ (List.getElem?_eq_getElem hi)).2
theorem grid_of (ht : Try.prog.underlying t = some (.slice e)) (hce : Try.prog.cellsOf e = 1) (he : Try.prog.underlying e = some (.slice b)) (hb : Try.prog.underlying b = some (.int q)) (hc : Try.prog.cellsOf b = 1) {r : Reach} {b0 : Nat} {v : Value} {d : DataW H} {p : List MemPlace} (hv : Value.okWide Try.prog w r b0 t v)
    (h : DataW.Trod enc Try.prog w 0 (fun _ => true) true t v d p) : ∃ (A : Option Addr) (c : Nat) (rs : List Rw), v = .slice A rs.length c ∧ GridIn q w A c rs := by
  obtain ⟨A0, len0, c0, rfl⟩ := okWide_slice ht hv
  obtain ⟨fuel, hf⟩ := h
  exact grid_cells ht hce he hb hc hf
end
end Go.Proofs.Ytbbcgcinpodhkaa
