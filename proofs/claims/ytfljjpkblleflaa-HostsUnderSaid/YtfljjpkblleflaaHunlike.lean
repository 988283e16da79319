/- The walks of HostsUnlike, HostsUnder and HostsDeep. -/
import Derived.Test.YtfljjpkblleflaaHmatched
namespace Go.Proofs.Ytfljjpkblleflaa
open Go.RowKit
set_option linter.unusedVariables false
set_option linter.unusedSimpArgs false
set_option maxRecDepth 100000

theorem match_host {p h : ByteArray} (hm : matchB p h = true) : hostB h = true := by rw [hostB_L]; exact ((match_iff p h).1 hm).1

theorem hostsUnlike_walk (a b h : ByteArray) (w : World) (ha : a.size ≤ maxLen) (hb : b.size ≤ maxLen) (hh : h.size ≤ maxLen) :
    Calls Try.prog 5 #[.string a, .string b, .string h] w fun e w' => e = .returned (.bool true) ∧ Below w.heap.size w w' := by
  unfold maxLen at ha hb hh
  have B : Below w.heap.size w w := Below.refl _ _
  by_cases hz : a.size ≤ 200 ∧ b.size ≤ 200 ∧ h.size ≤ 200
  · obtain ⟨h1, h2, h3⟩ := hz
    have t1 : decide ((200 : Int) < (a.size : Int)) = false := by simp; omega
    have t2 : decide ((200 : Int) < (b.size : Int)) = false := by simp; omega
    have t3 : decide ((200 : Int) < (h.size : Int)) = false := by simp; omega
    have n1 := fun w => match_is a h w (by omega)
    have n2 := fun w => match_is b h w (by omega)
    have n3 := fun w => weight_is a w
    have n4 := fun w => weight_is b w
    have n5 := fun w => host_is h w
    obtain ⟨x, hx⟩ : ∃ x, matchB a h = x := ⟨_, rfl⟩
    obtain ⟨y, hy⟩ : ∃ y, matchB b h = y := ⟨_, rfl⟩
    rw [hx] at n1
    rw [hy] at n2
    by_cases hxy : x = true ∧ y = true
    · obtain ⟨rfl, rfl⟩ := hxy
      have g1 := match_unlike hx hy
      rw [match_host hx] at n5
      clear hx hy
      generalize weightI a = i at n3 g1
      generalize weightI b = j at n4 g1
      obtain ⟨z, hz⟩ : ∃ z, (i == j) = z := ⟨_, rfl⟩
      rw [hz] at g1
      cases z
      all_goals
        go_enter Try.func5, Try.ntmps5
        go_wp2_with (first
          | (go_at_call 8; ((with_reducible refine (matched_is _).mono ?_); rintro e wx ⟨rfl, kk⟩; replace B := below_next B kk; clear kk))
          | (go_at_call 9; ((with_reducible refine (n1 _).mono ?_); rintro e wx ⟨rfl, kk⟩; replace B := below_next B kk; clear kk))
          | (go_at_call 9; ((with_reducible refine (n2 _).mono ?_); rintro e wx ⟨rfl, kk⟩; replace B := below_next B kk; clear kk))
          | (go_at_call 13; ((with_reducible refine (n3 _).mono ?_); rintro e wx ⟨rfl, kk⟩; replace B := below_next B kk; clear kk))
          | (go_at_call 13; ((with_reducible refine (n4 _).mono ?_); rintro e wx ⟨rfl, kk⟩; replace B := below_next B kk; clear kk))
          | (go_at_call 17; ((with_reducible refine (n5 _).mono ?_); rintro e wx ⟨rfl, kk⟩; replace B := below_next B kk; clear kk)))
        go_ret
        exact ⟨rfl, B⟩
    · clear hx hy n3 n4 n5
      cases x <;> cases y
      all_goals first | (exact absurd ⟨rfl, rfl⟩ hxy) | clear hxy
      all_goals
        go_enter Try.func5, Try.ntmps5
        go_wp2_with (first
          | (go_at_call 8; ((with_reducible refine (matched_is _).mono ?_); rintro e wx ⟨rfl, kk⟩; replace B := below_next B kk; clear kk))
          | (go_at_call 9; ((with_reducible refine (n1 _).mono ?_); rintro e wx ⟨rfl, kk⟩; replace B := below_next B kk; clear kk))
          | (go_at_call 9; ((with_reducible refine (n2 _).mono ?_); rintro e wx ⟨rfl, kk⟩; replace B := below_next B kk; clear kk)))
        go_ret
        exact ⟨rfl, B⟩
  · obtain ⟨x1, hx1⟩ : ∃ x, decide ((200 : Int) < (a.size : Int)) = x := ⟨_, rfl⟩
    obtain ⟨x2, hx2⟩ : ∃ x, decide ((200 : Int) < (b.size : Int)) = x := ⟨_, rfl⟩
    obtain ⟨x3, hx3⟩ : ∃ x, decide ((200 : Int) < (h.size : Int)) = x := ⟨_, rfl⟩
    have hx : x1 = true ∨ x2 = true ∨ x3 = true := by
      rw [← hx1, ← hx2, ← hx3, decide_eq_true_eq, decide_eq_true_eq, decide_eq_true_eq]; omega
    clear hz
    cases x1 <;> cases x2 <;> cases x3
    all_goals first | (exact absurd hx (by decide)) | clear hx
    all_goals
      go_enter Try.func5, Try.ntmps5
      go_wp2_with fail
      go_ret
      exact ⟨rfl, B⟩

/-- HostsUnder, by what the calls answer. -/
theorem hostsUnder_run (a b c : ByteArray) (w : World) (h1 : a.size ≤ 200) (h2 : b.size ≤ 200) (h3 : c.size ≤ 200) (x y z p q e : Bool)
    (n1 : ∀ w, Calls Try.prog 11 #[.string a, .string b] w (Says w x))
    (n2 : ∀ w, Calls Try.prog 11 #[.string b, .string a] w (Says w y))
    (n3 : ∀ w, Calls Try.prog 11 #[.string b, .string c] w (Says w z))
    (n4 : ∀ w, Calls Try.prog 11 #[.string a, .string c] w (Says w q))
    (n5 : ∀ w, Calls Try.prog 11 #[.string a, .string a] w (Says w p))
    (n6 : ∀ w, Calls Try.prog 18 #[.string a] w (Says w p))
    (he : (a.toList == b.toList) = e) (g1 : x = true → y = true → e = true) (g2 : x = true → z = true → q = true) :
    Calls Try.prog 6 #[.string a, .string b, .string c] w fun e w' => e = .returned (.bool true) ∧ Below w.heap.size w w' := by
  have B : Below w.heap.size w w := Below.refl _ _
  have t1 : decide ((200 : Int) < (a.size : Int)) = false := by simp; omega
  have t2 : decide ((200 : Int) < (b.size : Int)) = false := by simp; omega
  have t3 : decide ((200 : Int) < (c.size : Int)) = false := by simp; omega
  cases x <;> cases y <;> cases z <;> cases q <;> cases e
  all_goals first | (exact absurd (g1 rfl rfl) (by decide)) | (exact absurd (g2 rfl rfl) (by decide)) | clear g1 g2
  all_goals
    go_enter Try.func6, Try.ntmps6
    go_wp2_with (first
      | (go_at_call 8; ((with_reducible refine (matched_is _).mono ?_); rintro e wx ⟨rfl, kk⟩; replace B := below_next B kk; clear kk))
      | (go_at_call 11; ((with_reducible refine (n1 _).mono ?_); rintro e wx ⟨rfl, kk⟩; replace B := below_next B kk; clear kk))
      | (go_at_call 11; ((with_reducible refine (n2 _).mono ?_); rintro e wx ⟨rfl, kk⟩; replace B := below_next B kk; clear kk))
      | (go_at_call 11; ((with_reducible refine (n3 _).mono ?_); rintro e wx ⟨rfl, kk⟩; replace B := below_next B kk; clear kk))
      | (go_at_call 11; ((with_reducible refine (n4 _).mono ?_); rintro e wx ⟨rfl, kk⟩; replace B := below_next B kk; clear kk))
      | (go_at_call 11; ((with_reducible refine (n5 _).mono ?_); rintro e wx ⟨rfl, kk⟩; replace B := below_next B kk; clear kk))
      | (go_at_call 18; ((with_reducible refine (n6 _).mono ?_); rintro e wx ⟨rfl, kk⟩; replace B := below_next B kk; clear kk)))
    go_ret
    exact ⟨rfl, B⟩

theorem hostsUnder_walk (a b c : ByteArray) (w : World) (ha : a.size ≤ maxLen) (hb : b.size ≤ maxLen) (hc : c.size ≤ maxLen) :
    Calls Try.prog 6 #[.string a, .string b, .string c] w fun e w' => e = .returned (.bool true) ∧ Below w.heap.size w w' := by
  unfold maxLen at ha hb hc
  by_cases hz : a.size ≤ 200 ∧ b.size ≤ 200 ∧ c.size ≤ 200
  · obtain ⟨h1, h2, h3⟩ := hz
    exact hostsUnder_run a b c w h1 h2 h3 (underB a b) (underB b a) (underB b c) (pathB a) (underB a c) _ (fun w => under_is a b w (by omega)) (fun w => under_is b a w (by omega)) (fun w => under_is b c w (by omega)) (fun w => under_is a c w (by omega))
      (fun w => (under_is a a w (by omega)).mono fun _ _ k => k.of (under_self a)) (fun w => path_is a w) rfl (fun h k => by rw [under_anti h k, beq_self_eq_true]) (fun h k => under_trans h k)
  · have B : Below w.heap.size w w := Below.refl _ _
    obtain ⟨x1, hx1⟩ : ∃ x, decide ((200 : Int) < (a.size : Int)) = x := ⟨_, rfl⟩
    obtain ⟨x2, hx2⟩ : ∃ x, decide ((200 : Int) < (b.size : Int)) = x := ⟨_, rfl⟩
    obtain ⟨x3, hx3⟩ : ∃ x, decide ((200 : Int) < (c.size : Int)) = x := ⟨_, rfl⟩
    have hx : x1 = true ∨ x2 = true ∨ x3 = true := by
      rw [← hx1, ← hx2, ← hx3, decide_eq_true_eq, decide_eq_true_eq, decide_eq_true_eq]; omega
    clear hz
    cases x1 <;> cases x2 <;> cases x3
    all_goals first | (exact absurd hx (by decide)) | clear hx
    all_goals
      go_enter Try.func6, Try.ntmps6
      go_wp2_with fail
      go_ret
      exact ⟨rfl, B⟩
end Go.Proofs.Ytfljjpkblleflaa
