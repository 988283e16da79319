/- Contracts of the functions that ask one byte. -/
import Derived.Test.YtmjdamcbdclgpaaRows
import Derived.Test.YtmjdamcbdclgpaaNsay
namespace Go.Proofs.Ytmjdamcbdclgpaa
open Go.RowKit
set_option linter.unusedVariables false
set_option linter.unusedSimpArgs false

theorem isLetter_is (n : Int) (w : World) (h0 : 0 ≤ n) (h1 : n ≤ 255) : Calls Try.prog 70 #[.int .u8 n] w fun e w' => e = .returned (.bool (lowI n)) ∧ w = w' := by
  go_enter Try.func70, Try.ntmps70
  go_wp2
  all_goals go_ret
  all_goals refine ⟨ret_bool ?_, rfl⟩
  all_goals simp only [lowI]
  all_goals first | (symm; apply decide_eq_true; omega) | (symm; apply decide_eq_false; omega) | (congr 1; apply propext; omega)

theorem low_is (n : Int) (w : World) (h0 : 0 ≤ n) (h1 : n ≤ 255) : Calls Try.prog 67 #[.int .u8 n] w fun e w' => e = .returned (.bool (lowI n)) ∧ w = w' := by
  go_enter Try.func67, Try.ntmps67
  go_wp2
  all_goals go_ret
  all_goals refine ⟨ret_bool ?_, rfl⟩
  all_goals simp only [lowI]
  all_goals first | (symm; apply decide_eq_true; omega) | (symm; apply decide_eq_false; omega) | (congr 1; apply propext; omega)

theorem isNameByte_is (n : Int) (w : World) (h0 : 0 ≤ n) (h1 : n ≤ 255) : Calls Try.prog 71 #[.int .u8 n] w fun e w' => e = .returned (.bool (wordI n)) ∧ w = w' := by
  obtain ⟨b, hb⟩ : ∃ b, lowI n = b := ⟨_, rfl⟩
  have hl := isLetter_is n w h0 h1
  rw [hb] at hl
  have HB := Lib.hid hb
  clear hb
  cases b
  all_goals
    go_enter Try.func71, Try.ntmps71
    go_wp2_with (go_at_call 70; refine hl.mono ?_; rintro e w' ⟨rfl, rfl⟩)
  all_goals go_ret
  all_goals refine ⟨ret_bool ?_, rfl⟩
  all_goals simp only [wordI, HB.out, Bool.true_or, Bool.false_or]
  all_goals first | rfl | (symm; simp only [Bool.or_eq_true, decide_eq_true_eq, Bool.or_eq_false_iff, decide_eq_false_iff_not]; omega) | (rw [Bool.eq_iff_iff]; simp only [Bool.or_eq_true, decide_eq_true_eq, beq_iff_eq]; omega)

theorem word_is (n : Int) (w : World) (h0 : 0 ≤ n) (h1 : n ≤ 255) : Calls Try.prog 68 #[.int .u8 n] w fun e w' => e = .returned (.bool (wordI n)) ∧ w = w' := by
  obtain ⟨b, hb⟩ : ∃ b, lowI n = b := ⟨_, rfl⟩
  have hl := low_is n w h0 h1
  rw [hb] at hl
  have HB := Lib.hid hb
  clear hb
  cases b
  all_goals
    go_enter Try.func68, Try.ntmps68
    go_wp2_with (go_at_call 67; refine hl.mono ?_; rintro e w' ⟨rfl, rfl⟩)
  all_goals go_ret
  all_goals refine ⟨ret_bool ?_, rfl⟩
  all_goals simp only [wordI, HB.out, Bool.true_or, Bool.false_or]
  all_goals first | rfl | (symm; simp only [Bool.or_eq_true, decide_eq_true_eq, Bool.or_eq_false_iff, decide_eq_false_iff_not]; omega) | (rw [Bool.eq_iff_iff]; simp only [Bool.or_eq_true, decide_eq_true_eq, beq_iff_eq]; omega)

theorem isSlash_is (n : Int) (w : World) (h0 : 0 ≤ n) (h1 : n ≤ 255) : Calls Try.prog 78 #[.int .u8 n] w fun e w' => e = .returned (.bool (slashI n)) ∧ w = w' := by
  go_enter Try.func78, Try.ntmps78
  go_wp2
  all_goals go_ret
  all_goals refine ⟨ret_bool ?_, rfl⟩
  all_goals simp only [slashI]
  all_goals first | rfl | (rw [Bool.eq_iff_iff]; simp only [decide_eq_true_eq, beq_iff_eq])

theorem isPathByte_is (n : Int) (w : World) (h0 : 0 ≤ n) (h1 : n ≤ 255) : Calls Try.prog 79 #[.int .u8 n] w fun e w' => e = .returned (.bool (pathI n)) ∧ w = w' := by
  obtain ⟨b, hb⟩ : ∃ b, wordI n = b := ⟨_, rfl⟩
  obtain ⟨c, hc⟩ : ∃ c, slashI n = c := ⟨_, rfl⟩
  have hl := isNameByte_is n w h0 h1
  have hs := isSlash_is n w h0 h1
  rw [hb] at hl
  rw [hc] at hs
  have HB := Lib.hid hb
  have HC := Lib.hid hc
  clear hb hc
  cases b <;> cases c
  all_goals
    go_enter Try.func79, Try.ntmps79
    go_wp2_with (first | (go_at_call 71; refine hl.mono ?_; rintro e w' ⟨rfl, rfl⟩) | (go_at_call 78; refine hs.mono ?_; rintro e w' ⟨rfl, rfl⟩))
  all_goals go_ret
  all_goals refine ⟨ret_bool ?_, rfl⟩
  all_goals simp only [pathI, HB.out, HC.out]
  all_goals rfl
end Go.Proofs.Ytmjdamcbdclgpaa
