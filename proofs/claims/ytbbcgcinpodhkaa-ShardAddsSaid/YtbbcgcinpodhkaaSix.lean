/- Six counts are the same as they are: the program's own comparison of arrays. -/
import Derived.Test.YtbbcgcinpodhkaaRows
import Derived.Test.YtbbcgcinpodhkaaOuts
import Derived.ChangeKeysEq
namespace Go.Proofs.Ytbbcgcinpodhkaa
open Go.RowKit
set_option linter.unusedVariables false
set_option linter.unusedSimpArgs false
set_option maxRecDepth 100000

/-- Six counts are the same as they are. -/
theorem one_same6 (n : Nat) (a : Int) (w : World) : (Op.equalIn (n + 1) 27 (.int .u64 a) (.int .u64 a)).run Try.prog w = .ok true w := by
  rw [Op.equalIn]
  simp only [Sem.run_bind, run_underlying Try.underlying27, Result.andThen_ok]
  simp
theorem counts_any6 (n : Nat) (a b c d e f : Int) (w : World) : (Op.equalIn (n + 2) 28 (.agg #[.int .u64 a, .int .u64 b, .int .u64 c, .int .u64 d, .int .u64 e, .int .u64 f]) (.agg #[.int .u64 a, .int .u64 b, .int .u64 c, .int .u64 d, .int .u64 e, .int .u64 f])).run Try.prog w = .ok true w := by
  have hc : (Try.prog).cellsOf 27 = 1 := by kernel_rfl
  obtain ⟨i, hi, _⟩ := info_parts (show (Try.prog.info? 27).map (fun i => (i.zero, i.size, i.bytes)) = some (some (.int .u64 0), 1, 8) by kernel_rfl)
  have h1 := one_same6 n
  have hp : (Try.prog).plainKey 27 = true := by kernel_rfl
  obtain ⟨xs, hxs⟩ : ∃ xs : Array Value, #[.int .u64 a, .int .u64 b, .int .u64 c, .int .u64 d, .int .u64 e, .int .u64 f] = xs := ⟨_, rfl⟩
  have hpart : ∀ (j : Nat) (v : Value) (w : World), xs[j]? = some v → (part 27 xs j).run Try.prog w = .ok v w := fun j v w h => run_part_plain w hp h
  have x0 := fun w => hpart 0 (.int .u64 a) w (by rw [← hxs]; rfl)
  have x1 := fun w => hpart 1 (.int .u64 b) w (by rw [← hxs]; rfl)
  have x2 := fun w => hpart 2 (.int .u64 c) w (by rw [← hxs]; rfl)
  have x3 := fun w => hpart 3 (.int .u64 d) w (by rw [← hxs]; rfl)
  have x4 := fun w => hpart 4 (.int .u64 e) w (by rw [← hxs]; rfl)
  have x5 := fun w => hpart 5 (.int .u64 f) w (by rw [← hxs]; rfl)
  rw [hxs, Go.run_equalIn_array w (n + 1) _ _ Try.underlying28 hi, hc]
  simp only [List.range_succ, List.range_zero, List.nil_append, List.cons_append, Op.eqItems, Nat.mul_one]
  simp only [Sem.run_bind, x0, x1, x2, x3, x4, x5, Result.andThen_ok, h1, Bool.not_true, Bool.false_eq_true, if_false, Sem.run_pure]
theorem six_same (a b c d e f : Int) (w : World) : (Op.equalIn 10000 28 (.agg #[.int .u64 a, .int .u64 b, .int .u64 c, .int .u64 d, .int .u64 e, .int .u64 f]) (.agg #[.int .u64 a, .int .u64 b, .int .u64 c, .int .u64 d, .int .u64 e, .int .u64 f])).run Try.prog w = .ok true w := by
  rw [show (10000 : Nat) = 9998 + 2 from rfl]
  exact counts_any6 9998 a b c d e f w
end Go.Proofs.Ytbbcgcinpodhkaa
