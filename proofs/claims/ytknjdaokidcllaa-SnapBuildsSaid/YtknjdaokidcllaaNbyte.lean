/- Contracts of the functions that ask one byte. -/
import Derived.Test.YtknjdaokidcllaaRows
import Derived.Test.YtknjdaokidcllaaNsay
namespace Go.Proofs.Ytknjdaokidcllaa
open Go.RowKit
set_option linter.unusedVariables false
set_option linter.unusedSimpArgs false

theorem isLetter_is (n : Int) (w : World) (h0 : 0 ≤ n) (h1 : n ≤ 255) : Calls Try.prog 75 #[.int .u8 n] w fun e w' => e = .returned (.bool (lowI n)) ∧ w = w' := by
  go_enter Try.func75, Try.ntmps75
  go_wp2
  all_goals go_ret
  all_goals refine ⟨ret_bool ?_, rfl⟩
  all_goals simp only [lowI]
  all_goals first | (symm; apply decide_eq_true; omega) | (symm; apply decide_eq_false; omega) | (congr 1; apply propext; omega)

theorem low_is (n : Int) (w : World) (h0 : 0 ≤ n) (h1 : n ≤ 255) : Calls Try.prog 72 #[.int .u8 n] w fun e w' => e = .returned (.bool (lowI n)) ∧ w = w' := by
  go_enter Try.func72, Try.ntmps72
  go_wp2
  all_goals go_ret
  all_goals refine ⟨ret_bool ?_, rfl⟩
  all_goals simp only [lowI]
  all_goals first | (symm; apply decide_eq_true; omega) | (symm; apply decide_eq_false; omega) | (congr 1; apply propext; omega)

theorem isNameByte_is (n : Int) (w : World) (h0 : 0 ≤ n) (h1 : n ≤ 255) : Calls Try.prog 76 #[.int .u8 n] w fun e w' => e = .returned (.bool (wordI n)) ∧ w = w' := by
  obtain ⟨b, hb⟩ : ∃ b, lowI n = b := ⟨_, rfl⟩
  have hl := isLetter_is n w h0 h1
  rw [hb] at hl
  have HB := Lib.hid hb
  clear hb
  cases b
  all_goals
    go_enter Try.func76, Try.ntmps76
    go_wp2_with (go_at_call 75; refine hl.mono ?_; rintro e w' ⟨rfl, rfl⟩)
  all_goals go_ret
  all_goals refine ⟨ret_bool ?_, rfl⟩
  all_goals simp only [wordI, HB.out, Bool.true_or, Bool.false_or]
  all_goals first | rfl | (symm; simp only [Bool.or_eq_true, decide_eq_true_eq, Bool.or_eq_false_iff, decide_eq_false_iff_not]; omega) | (rw [Bool.eq_iff_iff]; simp only [Bool.or_eq_true, decide_eq_true_eq, beq_iff_eq]; omega)

theorem word_is (n : Int) (w : World) (h0 : 0 ≤ n) (h1 : n ≤ 255) : Calls Try.prog 73 #[.int .u8 n] w fun e w' => e = .returned (.bool (wordI n)) ∧ w = w' := by
  obtain ⟨b, hb⟩ : ∃ b, lowI n = b := ⟨_, rfl⟩
  have hl := low_is n w h0 h1
  rw [hb] at hl
  have HB := Lib.hid hb
  clear hb
  cases b
  all_goals
    go_enter Try.func73, Try.ntmps73
    go_wp2_with (go_at_call 72; refine hl.mono ?_; rintro e w' ⟨rfl, rfl⟩)
  all_goals go_ret
  all_goals refine ⟨ret_bool ?_, rfl⟩
  all_goals simp only [wordI, HB.out, Bool.true_or, Bool.false_or]
  all_goals first | rfl | (symm; simp only [Bool.or_eq_true, decide_eq_true_eq, Bool.or_eq_false_iff, decide_eq_false_iff_not]; omega) | (rw [Bool.eq_iff_iff]; simp only [Bool.or_eq_true, decide_eq_true_eq, beq_iff_eq]; omega)

theorem isSlash_is (n : Int) (w : World) (h0 : 0 ≤ n) (h1 : n ≤ 255) : Calls Try.prog 83 #[.int .u8 n] w fun e w' => e = .returned (.bool (slashI n)) ∧ w = w' := by
  go_enter Try.func83, Try.ntmps83
  go_wp2
  all_goals go_ret
  all_goals refine ⟨ret_bool ?_, rfl⟩
  all_goals simp only [slashI]
  all_goals first | rfl | (rw [Bool.eq_iff_iff]; simp only [decide_eq_true_eq, beq_iff_eq])

theorem isPathByte_is (n : Int) (w : World) (h0 : 0 ≤ n) (h1 : n ≤ 255) : Calls Try.prog 84 #[.int .u8 n] w fun e w' => e = .returned (.bool (pathI n)) ∧ w = w' := by
  obtain ⟨b, hb⟩ : ∃ b, wordI n = b := ⟨_, rfl⟩
  obtain ⟨c, hc⟩ : ∃ c, slashI n = c := ⟨_, rfl⟩
  have hl := isNameByte_is n w h0 h1
  have hs := isSlash_is n w h0 h1
  rw [hb] at hl
  rw [hc] at hs
  have HB := Lib.hid hb
  have HC := Lib.hid hc
  clear hb hc
  cases b <;> cases c
  all_goals
    go_enter Try.func84, Try.ntmps84
    go_wp2_with (first | (go_at_call 76; refine hl.mono ?_; rintro e w' ⟨rfl, rfl⟩) | (go_at_call 83; refine hs.mono ?_; rintro e w' ⟨rfl, rfl⟩))
  all_goals go_ret
  all_goals refine ⟨ret_bool ?_, rfl⟩
  all_goals simp only [pathI, HB.out, HC.out]
  all_goals rfl
end Go.Proofs.Ytknjdaokidcllaa
