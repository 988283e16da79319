/- The document's comparison of two rows of numbers: of equal rows it answers true. -/
import Derived.Test.YtglnofdncglmnaaNsay
import Derived.Test.YtglnofdncglmnaaArgs
import Derived.Test.YtglnofdncglmnaaRows
import Derived.RegionTactic
import Derived.BigQuiet
import Derived.Deep.QuietTactic
namespace Go.Proofs.Ytglnofdncglmnaa
open Go.RowKit
set_option linter.unusedVariables false
set_option linter.unusedSimpArgs false
set_option maxRecDepth 100000

theorem sameI_yes (A A' : Option Addr) (c c' B B' : Nat) (xs : List Int) (w : World) (hl : xs.length ≤ maxLen)
    (hx : Hid (Reads w B A (xs.map (Value.int .i64)))) (hy : Hid (Reads w B' A' (xs.map (Value.int .i64)))) :
    Calls Try.prog 13 #[.slice A xs.length c, .slice A' xs.length c'] w (Says w true) := by
  unfold maxLen at hl
  go_enter Try.func13, Try.ntmps13
  go_wp2_with fail
  go_loopw [5] (fun i wr => ∃ k : Nat, k ≤ xs.length ∧ i = .int .i64 k ∧ ∃ n, wr = w.drewN n) (fun i _ => xs.length - (intOf i).toNat)
  case atStart => exact ⟨0, by omega, rfl, 0, rfl⟩
  case round =>
    obtain ⟨k, hk, rfl, n, rfl⟩ := hrel
    by_cases hlt : k < xs.length
    · obtain ⟨ad, rfl, _, hc⟩ := hx.out.int hlt
      obtain ⟨ad', rfl, _, hc'⟩ := hy.out.int hlt
      generalize xs[k] = z at hc hc'
      go_wp2_with fail
      go_quiet (fail)
      go_wp2_with fail
      go_roundw
      case rel => exact ⟨k + 1, by omega, by go_num, _, rfl⟩
      case measure => simp [intOf]; omega
    · go_wp2_with fail
      go_ret
      exact ⟨rfl, below_drewN (Below.refl _ _) _⟩
end Go.Proofs.Ytglnofdncglmnaa
