/- The document's own Under. -/
import Derived.Test.YtnjacobimndnbaaHref
namespace Go.Proofs.Ytnjacobimndnbaa
open Go.RowKit
set_option linter.unusedVariables false
set_option linter.unusedSimpArgs false
set_option maxRecDepth 100000

theorem runder_is (a t : ByteArray) (w : World) (ha : a.size ≤ 2000) (ht : t.size ≤ 2000) : Calls Try.prog 23 #[.string a, .string t] w (Says w (underB a t)) := by
  have n1 := fun w => rpath_is a w
  have n2 := fun w => rpath_is t w
  have B : Below w.heap.size w w := Below.refl _ _
  obtain ⟨x1, h1⟩ : ∃ c, pathB a = c := ⟨_, rfl⟩
  obtain ⟨x2, h2⟩ : ∃ c, pathB t = c := ⟨_, rfl⟩
  by_cases hx : x1 = true ∧ x2 = true
  · obtain ⟨rfl, rfl⟩ := hx
    rw [h1] at n1
    rw [h2] at n2
    obtain ⟨x3, h3⟩ : ∃ c, preB a t = c := ⟨_, rfl⟩
    cases x3 with
    | false =>
      have e : underB a t = false := by rw [underB, h1, h2, h3]; rfl
      rw [e]
      by_cases hlt : a.size < t.size
      · have g1 : decide (a.size < t.size) = true := decide_eq_true hlt
        clear e h1 h2 h3
        go_enter Try.func23, Try.ntmps23
        go_wp2_with (first
          | (go_at_call 36; ((with_reducible refine (n1 _).mono ?_); rintro e w' ⟨rfl, rfl⟩))
          | (go_at_call 36; ((with_reducible refine (n2 _).mono ?_); rintro e w' ⟨rfl, rfl⟩)))
        go_ret
        exact ⟨rfl, B⟩
      · have g1 : decide (a.size < t.size) = false := decide_eq_false hlt
        have h4 : ((a.extract 0 t.size).toList == t.toList) = false := by
          rw [preB, decide_eq_true (by omega), Bool.true_and] at h3
          exact h3
        clear e h1 h2 h3
        go_enter Try.func23, Try.ntmps23
        go_wp2_with (first
          | (go_at_call 36; ((with_reducible refine (n1 _).mono ?_); rintro e w' ⟨rfl, rfl⟩))
          | (go_at_call 36; ((with_reducible refine (n2 _).mono ?_); rintro e w' ⟨rfl, rfl⟩)))
        go_ret
        exact ⟨rfl, B⟩
    | true =>
      have hle := pre_size h3
      have g1 : decide (a.size < t.size) = false := decide_eq_false (by omega)
      have h4 : ((a.extract 0 t.size).toList == t.toList) = true := by
        rw [preB, decide_eq_true hle, Bool.true_and] at h3
        exact h3
      obtain ⟨k, hk⟩ := path_some h2
      have h5 := last_slash hk
      have h6 := cut_empty h3
      by_cases heq : a.size = t.size
      · have e : underB a t = true := by rw [underB, h1, h2, h3, h6, decide_eq_true heq]; rfl
        rw [e]
        have g2 : ((a.size : Int) == (t.size : Int)) = true := by rw [beq_iff_eq]; omega
        have HQ := Lib.hid heq
        clear e h1 h2 h3 h5 h6 heq hk
        go_enter Try.func23, Try.ntmps23
        go_wp2_with (first
          | (go_at_call 36; ((with_reducible refine (n1 _).mono ?_); rintro e w' ⟨rfl, rfl⟩))
          | (go_at_call 36; ((with_reducible refine (n2 _).mono ?_); rintro e w' ⟨rfl, rfl⟩)))
        go_ret
        exact ⟨rfl, B⟩
      · have g2 : ((a.size : Int) == (t.size : Int)) = false := by rw [beq_eq_false_iff_ne]; omega
        have hlt : t.size < a.size := by omega
        have h7 := next_slash h3 hlt
        have e : underB a t = (((t[k].toNat : Int) == 47) || ((a[t.size].toNat : Int) == 47)) := by rw [underB, h1, h2, h3, h6, decide_eq_false heq, h5, h7]; rfl
        rw [e]
        clear e h1 h2 h3 h5 h6 h7 heq
        obtain rfl : k = t.size - 1 := by omega
        have g4 : 1 ≤ t.size := by omega
        have g5 : t.size - 1 < t.size := by omega
        obtain ⟨y1, hy1⟩ : ∃ c, (((t[t.size - 1]'g5).toNat : Int) == 47) = c := ⟨_, rfl⟩
        obtain ⟨y2, hy2⟩ : ∃ c, ((a[t.size].toNat : Int) == 47) = c := ⟨_, rfl⟩
        rw [hy1, hy2]
        clear hk
        cases y1 <;> cases y2
        all_goals
          go_enter Try.func23, Try.ntmps23
          go_wp2_with (first
            | (go_at_call 36; ((with_reducible refine (n1 _).mono ?_); rintro e w' ⟨rfl, rfl⟩))
            | (go_at_call 36; ((with_reducible refine (n2 _).mono ?_); rintro e w' ⟨rfl, rfl⟩)))
          go_ret
          exact ⟨rfl, B⟩
  · have e : underB a t = false := by
      rw [underB, h1, h2]
      cases x1 <;> cases x2 <;> first | rfl | exact absurd ⟨rfl, rfl⟩ hx
    rw [e]
    rw [h1] at n1
    rw [h2] at n2
    clear e h1 h2
    cases x1 <;> cases x2
    all_goals first | (exact absurd ⟨rfl, rfl⟩ hx) | clear hx
    all_goals
      go_enter Try.func23, Try.ntmps23
      go_wp2_with (first
        | (go_at_call 36; ((with_reducible refine (n1 _).mono ?_); rintro e w' ⟨rfl, rfl⟩))
        | (go_at_call 36; ((with_reducible refine (n2 _).mono ?_); rintro e w' ⟨rfl, rfl⟩)))
      go_ret
      exact ⟨rfl, B⟩
end Go.Proofs.Ytnjacobimndnbaa
