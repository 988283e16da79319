/- A row of numbers that make made, and that is written one by one. -/
import Derived.Test.YtglnofdncglmnaaOwn
namespace Go.Proofs.Ytglnofdncglmnaa
open Go.RowKit
set_option linter.unusedVariables false
set_option linter.unusedSimpArgs false

theorem zeros_len (n : Nat) : (madeCells (Value.cells (.int .i64 0)) (n * 1)).toList = List.replicate n (.int .i64 0) := by
  refine List.ext_getElem (by simp [madeCells]) fun i h1 h2 => ?_
  simp [madeCells, Value.cells, Nat.mod_one]

/-- The program writes the numbers of a row that it made, one by one: the first k are written. -/
def upTo (l : List Int) (k : Nat) : List Value := (List.range l.length).map fun i => .int .i64 (if i < k then l.getD i 0 else 0)
theorem upTo_at (l : List Int) (k i : Nat) : (upTo l k)[i]? = if i < l.length then some (.int .i64 (if i < k then l.getD i 0 else 0)) else none := by
  unfold upTo
  rw [List.getElem?_map]
  by_cases h : i < l.length
  · rw [List.getElem?_range h, if_pos h]; rfl
  · rw [if_neg h, List.getElem?_eq_none (by simp; omega)]; rfl
theorem upTo_zero (l : List Int) : upTo l 0 = List.replicate l.length (.int .i64 0) := by
  refine List.ext_getElem? fun i => ?_
  rw [upTo_at, List.getElem?_replicate, if_neg (Nat.not_lt_zero i)]
theorem upTo_all (l : List Int) : upTo l l.length = l.map (Value.int .i64) := by
  refine List.ext_getElem? fun i => ?_
  rw [upTo_at, List.getElem?_map]
  by_cases h : i < l.length
  · rw [if_pos h, if_pos h, List.getD, List.getElem?_eq_getElem h]; rfl
  · rw [if_neg h, List.getElem?_eq_none (by omega)]; rfl
theorem upTo_len (l : List Int) (k : Nat) : (upTo l k).length = l.length := by simp [upTo]
theorem upTo_set (l : List Int) {k : Nat} {x : Int} (hx : l[k]? = some x) : (upTo l k).set k (.int .i64 x) = upTo l (k + 1) := by
  have hk := (List.getElem?_eq_some_iff.1 hx).1
  refine List.ext_getElem? fun i => ?_
  rw [List.getElem?_set, upTo_len, upTo_at, upTo_at]
  by_cases h : k = i
  · subst h
    rw [if_pos rfl, if_pos hk, if_pos hk, if_pos (by omega), List.getD, hx]; rfl
  · rw [if_neg h]
    by_cases h2 : i < k
    · rw [if_pos h2, if_pos (show i < k + 1 by omega)]
    · rw [if_neg h2, if_neg (show ¬ i < k + 1 by omega)]
end Go.Proofs.Ytglnofdncglmnaa
