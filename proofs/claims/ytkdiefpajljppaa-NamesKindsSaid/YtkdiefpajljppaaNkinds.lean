/- The walk of NamesKinds. -/
import Derived.Test.YtkdiefpajljppaaNamed
import Derived.Test.YtkdiefpajljppaaNkind
namespace Go.Proofs.Ytkdiefpajljppaa
open Go.RowKit
set_option linter.unusedVariables false
set_option linter.unusedSimpArgs false
set_option maxRecDepth 100000

theorem namesKinds_run (s u v : ByteArray) (w : World) (h : s.size ≤ 2000) (hu : (⟨#[42, 46]⟩ ++ s : ByteArray) = u) (hv : (s ++ ⟨#[47]⟩ : ByteArray) = v) (a b c d f t : Bool)
    (n1 : ∀ w, Calls Try.prog 9 #[.string s] w (Says w a)) (h3 : ∀ w, Calls Try.prog 11 #[.string s] w (Says w b))
    (p1 : ∀ w, Calls Try.prog 13 #[.string s] w (Says w c)) (q1 : ∀ w, Calls Try.prog 15 #[.string s] w (Says w d))
    (p2 : ∀ w, Calls Try.prog 13 #[.string u] w (Says w b)) (q2 : ∀ w, Calls Try.prog 15 #[.string v] w (Says w f))
    (hab : a = true → b = true) (hbc : b = true → c = true) (hdc : d = true → c = false) (hk : ((s.size : Int) == 32) = t) (hf : d = true → t = false → f = true) :
    Calls Try.prog 6 #[.string s] w (Says w true) := by
  have h1 : decide ((2000 : Int) < (s.size : Int)) = false := by simp; omega
  have B : Below w.heap.size w w := Below.refl _ _
  cases a <;> cases b <;> cases c <;> cases d <;> cases t <;> cases f
  all_goals first
    | (exact absurd (hab rfl) (by decide))
    | (exact absurd (hbc rfl) (by decide))
    | (exact absurd (hdc rfl) (by decide))
    | (exact absurd (hf rfl rfl) (by decide))
    | (clear hab hbc hdc hf)
  all_goals
    go_enter Try.func6, Try.ntmps6
    go_wp2_with (first
      | (go_at_call 9; refine (n1 _).mono ?_; rintro e wx ⟨rfl, k⟩; replace B := below_next B k; clear k)
      | (go_at_call 11; refine (h3 _).mono ?_; rintro e wx ⟨rfl, k⟩; replace B := below_next B k; clear k)
      | (go_at_call 8; refine (named_is _).mono ?_; rintro e wx ⟨rfl, k⟩; replace B := below_next B k; clear k)
      | (go_at_call 13; ((with_reducible refine (p1 _).mono ?_); rintro e wx ⟨rfl, k⟩; replace B := below_next B k; clear k))
      | (go_at_call 13; ((with_reducible refine (p2 _).mono ?_); rintro e wx ⟨rfl, k⟩; replace B := below_next B k; clear k))
      | (go_at_call 15; ((with_reducible refine (q1 _).mono ?_); rintro e wx ⟨rfl, k⟩; replace B := below_next B k; clear k))
      | (go_at_call 15; ((with_reducible refine (q2 _).mono ?_); rintro e wx ⟨rfl, k⟩; replace B := below_next B k; clear k)))
    go_ret
    exact ⟨rfl, B⟩

theorem namesKinds_walk (s : ByteArray) (w : World) (hs : s.size ≤ maxLen) :
    Calls Try.prog 6 #[.string s] w fun e w' => e = .returned (.bool true) ∧ Below w.heap.size w w' := by
  unfold maxLen at hs
  by_cases h : 2000 < s.size
  · have h1 : decide ((2000 : Int) < (s.size : Int)) = true := by simp; omega
    go_enter Try.func6, Try.ntmps6
    go_wp2_with fail
    go_ret
    exact ⟨rfl, Below.refl _ _⟩
  · refine namesKinds_run s _ _ w (by omega) rfl rfl (nameB s) (hostB s) (patternB s) (pathB s) (pathB (s ++ ⟨#[47]⟩)) _ (fun w => name_is s w) (fun w => host_is s w) (fun w => pattern_is s w) (fun w => path_is s w)
      (fun w => tail_pattern s ▸ pattern_is _ w) (fun w => path_is _ w) (name_host s) (host_pattern s) (path_pattern s) rfl (fun hd ht => path_more s hd ?_)
    rw [beq_eq_false_iff_ne] at ht
    omega
end Go.Proofs.Ytkdiefpajljppaa
