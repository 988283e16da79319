/- The walks of HostsMatch and HostsBetter. -/
import Derived.Test.YtfljjpkblleflaaHmatched
import Derived.Test.YtfljjpkblleflaaHrund
namespace Go.Proofs.Ytfljjpkblleflaa
open Go.RowKit
set_option linter.unusedVariables false
set_option linter.unusedSimpArgs false
set_option maxRecDepth 100000

theorem hostsMatch_walk (a b : ByteArray) (w : World) (ha : a.size ≤ maxLen) (hb : b.size ≤ maxLen) :
    Calls Try.prog 3 #[.string a, .string b] w fun e w' => e = .returned (.bool true) ∧ Below w.heap.size w w' := by
  unfold maxLen at ha hb
  have B : Below w.heap.size w w := Below.refl _ _
  by_cases h : a.size ≤ 200 ∧ b.size ≤ 200
  · obtain ⟨h1, h2⟩ := h
    have t1 : decide ((200 : Int) < (a.size : Int)) = false := by simp; omega
    have t2 : decide ((200 : Int) < (b.size : Int)) = false := by simp; omega
    have n1 := fun w => match_is a b w (by omega)
    have n2 := fun w => rmatch_is a b w (by omega) (by omega)
    have n3 := fun w => under_is a b w (by omega)
    have n4 := fun w => runder_is a b w (by omega) (by omega)
    have n5 := fun w => weight_is a w
    have n6 := fun w => rweight_is a w (by omega)
    generalize matchB a b = x at n1 n2
    generalize underB a b = y at n3 n4
    generalize weightI a = z at n5 n6
    go_enter Try.func3, Try.ntmps3
    go_wp2_with (first
      | (go_at_call 8; ((with_reducible refine (matched_is _).mono ?_); rintro e wx ⟨rfl, kk⟩; replace B := below_next B kk; clear kk))
      | (go_at_call 9; ((with_reducible refine (n1 _).mono ?_); rintro e wx ⟨rfl, kk⟩; replace B := below_next B kk; clear kk))
      | (go_at_call 10; ((with_reducible refine (n2 _).mono ?_); rintro e wx ⟨rfl, kk⟩; replace B := below_next B kk; clear kk))
      | (go_at_call 11; ((with_reducible refine (n3 _).mono ?_); rintro e wx ⟨rfl, kk⟩; replace B := below_next B kk; clear kk))
      | (go_at_call 12; ((with_reducible refine (n4 _).mono ?_); rintro e wx ⟨rfl, kk⟩; replace B := below_next B kk; clear kk))
      | (go_at_call 13; ((with_reducible refine (n5 _).mono ?_); rintro e wx ⟨rfl, kk⟩; replace B := below_next B kk; clear kk))
      | (go_at_call 14; ((with_reducible refine (n6 _).mono ?_); rintro e wx ⟨rfl, kk⟩; replace B := below_next B kk; clear kk)))
    go_ret
    exact ⟨rfl, B⟩
  · obtain ⟨x, hx⟩ : ∃ x, decide ((200 : Int) < (a.size : Int)) = x := ⟨_, rfl⟩
    obtain ⟨y, hy⟩ : ∃ y, decide ((200 : Int) < (b.size : Int)) = y := ⟨_, rfl⟩
    have hxy : x = true ∨ y = true := by
      rw [← hx, ← hy, decide_eq_true_eq, decide_eq_true_eq]; omega
    clear h
    cases x <;> cases y
    all_goals first | (exact absurd hxy (by decide)) | clear hxy
    all_goals
      go_enter Try.func3, Try.ntmps3
      go_wp2_with fail
      go_ret
      exact ⟨rfl, B⟩

theorem better_anti (a p b q : ByteArray) (h : betterB a p b q = true) : betterB b q a p = false := by
  unfold betterB at h ⊢
  rw [Bool.or_eq_true, Bool.and_eq_true, decide_eq_true_eq, decide_eq_true_eq, beq_iff_eq] at h
  rw [Bool.or_eq_false_iff, Bool.and_eq_false_iff, decide_eq_false_iff_not, decide_eq_false_iff_not, beq_eq_false_iff_ne]
  omega
theorem better_self (a p : ByteArray) : betterB a p a p = false := by
  unfold betterB
  rw [Bool.or_eq_false_iff, Bool.and_eq_false_iff, decide_eq_false_iff_not, decide_eq_false_iff_not, beq_eq_false_iff_ne]
  omega

theorem hostsBetter_walk (a p b q : ByteArray) (w : World) (ha : a.size ≤ maxLen) (hp : p.size ≤ maxLen) (hb : b.size ≤ maxLen) (hq : q.size ≤ maxLen) :
    Calls Try.prog 4 #[.string a, .string p, .string b, .string q] w fun e w' => e = .returned (.bool true) ∧ Below w.heap.size w w' := by
  unfold maxLen at ha hp hb hq
  have B : Below w.heap.size w w := Below.refl _ _
  by_cases h : a.size ≤ 200 ∧ b.size ≤ 200 ∧ p.size ≤ 200 ∧ q.size ≤ 200
  · obtain ⟨h1, h2, h3, h4⟩ := h
    have t1 : decide ((200 : Int) < (a.size : Int)) = false := by simp; omega
    have t2 : decide ((200 : Int) < (b.size : Int)) = false := by simp; omega
    have t3 : decide ((200 : Int) < (p.size : Int)) = false := by simp; omega
    have t4 : decide ((200 : Int) < (q.size : Int)) = false := by simp; omega
    have n1 := fun w => better_is a p b q w
    have n2 := fun w => rbetter_is a p b q w (by omega) (by omega)
    have n3 := fun w => (better_is a p a p w).mono fun _ _ k => k.of (better_self a p)
    obtain ⟨x, hx⟩ : ∃ x, betterB a p b q = x := ⟨_, rfl⟩
    rw [hx] at n1 n2
    cases x with
    | false =>
      clear hx
      go_enter Try.func4, Try.ntmps4
      go_wp2_with (first
        | (go_at_call 8; ((with_reducible refine (matched_is _).mono ?_); rintro e wx ⟨rfl, kk⟩; replace B := below_next B kk; clear kk))
        | (go_at_call 16; ((with_reducible refine (n2 _).mono ?_); rintro e wx ⟨rfl, kk⟩; replace B := below_next B kk; clear kk))
        | (go_at_call 15; ((with_reducible refine (n1 _).mono ?_); rintro e wx ⟨rfl, kk⟩; replace B := below_next B kk; clear kk))
        | (go_at_call 15; ((with_reducible refine (n3 _).mono ?_); rintro e wx ⟨rfl, kk⟩; replace B := below_next B kk; clear kk)))
      go_ret
      exact ⟨rfl, B⟩
    | true =>
      have n4 := fun w => (better_is b q a p w).mono fun _ _ k => k.of (better_anti a p b q hx)
      clear hx
      go_enter Try.func4, Try.ntmps4
      go_wp2_with (first
        | (go_at_call 8; ((with_reducible refine (matched_is _).mono ?_); rintro e wx ⟨rfl, kk⟩; replace B := below_next B kk; clear kk))
        | (go_at_call 16; ((with_reducible refine (n2 _).mono ?_); rintro e wx ⟨rfl, kk⟩; replace B := below_next B kk; clear kk))
        | (go_at_call 15; ((with_reducible refine (n1 _).mono ?_); rintro e wx ⟨rfl, kk⟩; replace B := below_next B kk; clear kk))
        | (go_at_call 15; ((with_reducible refine (n4 _).mono ?_); rintro e wx ⟨rfl, kk⟩; replace B := below_next B kk; clear kk))
        | (go_at_call 15; ((with_reducible refine (n3 _).mono ?_); rintro e wx ⟨rfl, kk⟩; replace B := below_next B kk; clear kk)))
      go_ret
      exact ⟨rfl, B⟩
  · obtain ⟨x1, hx1⟩ : ∃ x, decide ((200 : Int) < (a.size : Int)) = x := ⟨_, rfl⟩
    obtain ⟨x2, hx2⟩ : ∃ x, decide ((200 : Int) < (b.size : Int)) = x := ⟨_, rfl⟩
    obtain ⟨x3, hx3⟩ : ∃ x, decide ((200 : Int) < (p.size : Int)) = x := ⟨_, rfl⟩
    obtain ⟨x4, hx4⟩ : ∃ x, decide ((200 : Int) < (q.size : Int)) = x := ⟨_, rfl⟩
    have hx : x1 = true ∨ x2 = true ∨ x3 = true ∨ x4 = true := by
      rw [← hx1, ← hx2, ← hx3, ← hx4, decide_eq_true_eq, decide_eq_true_eq, decide_eq_true_eq, decide_eq_true_eq]; omega
    clear h
    cases x1 <;> cases x2 <;> cases x3 <;> cases x4
    all_goals first | (exact absurd hx (by decide)) | clear hx
    all_goals
      go_enter Try.func4, Try.ntmps4
      go_wp2_with fail
      go_ret
      exact ⟨rfl, B⟩
end Go.Proofs.Ytfljjpkblleflaa
