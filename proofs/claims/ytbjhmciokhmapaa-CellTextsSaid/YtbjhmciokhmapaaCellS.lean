/- Contracts of package cell at one instance: each access, done by one goroutine, answers and leaves just what the document says. -/
import Derived.Test.YtbjhmciokhmapaaRows
import Derived.Test.YtbjhmciokhmapaaPtr
import Derived.Defers
import Derived.Recover
namespace Go.Proofs.Ytbjhmciokhmapaa
open Go.RowKit
set_option linter.unusedVariables false
set_option linter.unusedSimpArgs false
set_option maxRecDepth 100000

theorem sameS_fin (w : World) : CallsD Try.prog 37 #[] .returning w fun e u' w' => e = .returned (.tuple #[]) ∧ u' = .returning ∧ w' = w := by
  refine callsD_of_wpS Try.func37 rfl fun c₀ cs hu => ?_
  apply wpS_region
  simp [wpOpsS, go_sem, recoverD, hu, Try.ntmps37, Exit.thenS]
  cases c₀
  simp_all [bodyPostS, results, Try.results37]

theorem sameS_is (a b : ByteArray) (w : World) :
    Calls Try.prog 26 #[.string a, .string b] w fun e w' => e = .returned (.bool (a.toList == b.toList)) ∧ w = w' := by
  go_enter_defers Try.func26, Try.ntmps26
  go_wp2
  refine leaves_cons (f := 37) (args := #[]) (by simp) (by simp [go_sem]) ?_
  refine (sameS_fin _).mono ?_
  rintro e u' w'' ⟨rfl, rfl, rfl⟩
  simp [Leaves, settle, results, Try.results26, go_sem]

theorem toUS {w : World} {p : Nat} {x : Value} (h : w.heap[p]? = some (.cells #[x] 9 (0, 0))) :
    (convert 59 48 (.pointer (some ⟨p, 0, none⟩))).run Try.prog w = .ok (.pointer (some ⟨p, 0, none⟩)) w := by
  obtain ⟨j, hj, hz⟩ : ∃ j, Try.prog.info? 9 = some j ∧ j.size ≠ 0 := by
    have h0 : (Try.prog.info? 9).map (fun i => decide (i.size = 0)) = some false := by kernel_rfl
    obtain ⟨j, hj, h1⟩ := Option.map_eq_some_iff.1 h0
    exact ⟨j, hj, by simpa using h1⟩
  exact Lib.run_to_unsafe w ⟨p, 0, none⟩ Try.underlying59 Try.underlying48 hj hz (block_shape h) (by simp)

theorem fromUS {w : World} {p : Nat} {x : Value} (h : w.heap[p]? = some (.cells #[x] 9 (0, 0))) :
    (convert 48 59 (.pointer (some ⟨p, 0, none⟩))).run Try.prog w = .ok (.pointer (some ⟨p, 0, none⟩)) w := by
  obtain ⟨j, hj⟩ : ∃ j, Try.prog.info? 9 = some j := by
    have h0 : (Try.prog.info? 9).isSome = true := by kernel_rfl
    exact Option.isSome_iff_exists.1 h0
  have hl : liesAt Try.prog Try.prog.depth 9 (1 / Try.prog.cellsOf 9) 0 9 1 = true := by kernel_rfl
  exact Lib.run_from_unsafe w ⟨p, 0, none⟩ Try.underlying48 Try.underlying59 hj (block_shape h) hl

/-- The pointer's methods. -/
theorem ploadS (B p : Nat) (n x : Value) (w : World) (h : w.heap[B]? = some (.cells #[.pointer (some ⟨p, 0, none⟩), n] 64 (0, 0))) (hp : w.heap[p]? = some (.cells #[x] 9 (0, 0))) :
    Calls Try.prog 28 #[.pointer (some ⟨B, 0, none⟩)] w fun e w' => e = .returned (.pointer (some ⟨p, 0, none⟩)) ∧ w = w' := by
  have hld := run_call_loadp (P := Try.prog) Try.func36 (by kernel_rfl) (by kernel_rfl) (by kernel_rfl) (by kernel_rfl) (a := ⟨B, 0, none⟩) (w := w) (by rw [block_cell h]; rfl)
  have hfu := fromUS hp
  go_enter Try.func28, Try.ntmps28
  go_wp2
  go_ret
  exact ⟨rfl, rfl⟩

theorem pstoreS (B p : Nat) (n x y : Value) (w : World) (h : w.heap[B]? = some (.cells #[y, n] 64 (0, 0))) (hp : w.heap[p]? = some (.cells #[x] 9 (0, 0))) :
    Calls Try.prog 25 #[.pointer (some ⟨B, 0, none⟩), .pointer (some ⟨p, 0, none⟩)] w fun e w' => e = .returned (.tuple #[]) ∧ w' = w.setCell ⟨B, 0, none⟩ (.pointer (some ⟨p, 0, none⟩)) := by
  have hst := run_call_storep (P := Try.prog) Try.func33 (by kernel_rfl) (by kernel_rfl) (by kernel_rfl) (by kernel_rfl) (a := ⟨B, 0, none⟩) (y := some ⟨p, 0, none⟩) (w := w) (u := y) (by rw [block_cell h]; rfl) (block_free h 0)
  have htu := toUS hp
  go_enter Try.func25, Try.ntmps25
  go_wp2
  go_end0
  exact ⟨rfl, rfl⟩

theorem pcasS (B p q : Nat) (n x z : Value) (w : World) (h : w.heap[B]? = some (.cells #[.pointer (some ⟨p, 0, none⟩), n] 64 (0, 0))) (hp : w.heap[p]? = some (.cells #[x] 9 (0, 0))) (hq : w.heap[q]? = some (.cells #[z] 9 (0, 0))) :
    Calls Try.prog 29 #[.pointer (some ⟨B, 0, none⟩), .pointer (some ⟨p, 0, none⟩), .pointer (some ⟨q, 0, none⟩)] w fun e w' => e = .returned (.bool true) ∧ w' = w.setCell ⟨B, 0, none⟩ (.pointer (some ⟨q, 0, none⟩)) := by
  have hsw := run_call_casp_hit (P := Try.prog) Try.func38 (by kernel_rfl) (by kernel_rfl) (by kernel_rfl) (by kernel_rfl) (a := ⟨B, 0, none⟩) (p := ⟨p, 0, none⟩) (y := some ⟨q, 0, none⟩) (w := w) (by rw [block_cell h]; rfl) (block_free h 0)
  have htu := toUS hq
  have htp := toUS hp
  go_enter Try.func29, Try.ntmps29
  go_wp2
  go_ret
  exact ⟨rfl, rfl⟩

/-- The count: one more. -/
theorem countS (B : Nat) (y : Value) (n : Int) (w : World) (h : w.heap[B]? = some (.cells #[y, .int .i64 n] 64 (0, 0))) (h0 : 0 ≤ n) (h1 : n < 9223372036854775807) :
    Calls Try.prog 27 #[.pointer (some ⟨B, 0, none⟩)] w fun e w' => e = .returned (.tuple #[]) ∧ w' = w.setCell ⟨B, 1, none⟩ (.int .i64 (n + 1)) := by
  have hs : (Op.intArith .add .i64 n 1).run Try.prog w = .ok (.int .i64 (n + 1)) w := by
    simp [go_sem]
    exact IntWalk.i64_in _ (by omega)
  have hadd := run_call_add (P := Try.prog) Try.func41 (by kernel_rfl) (by kernel_rfl) (by kernel_rfl) .i64 (by kernel_rfl) (a := ⟨B, 1, none⟩) (y := 1) (w := w) (x := n) (s := n + 1) (by rw [block_cell h]; rfl) (block_free h 1) hs
  clear hs
  go_enter Try.func27, Try.ntmps27
  go_wp2
  go_end0
  exact ⟨rfl, rfl⟩
end Go.Proofs.Ytbjhmciokhmapaa
