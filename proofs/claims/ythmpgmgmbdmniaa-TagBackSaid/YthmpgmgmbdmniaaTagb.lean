/- The walks of TagBack, TagAnother, TagSteps and TagOrder. -/
import Derived.Test.YthmpgmgmbdmniaaTag
import Derived.LoopTactic
namespace Go.Proofs.Ythmpgmgmbdmniaa
open Go.ChangeShapes Go.WideShapes Go.ChangeAt Go.RowKit
set_option linter.unusedVariables false

theorem wf_u32 {a : Int} (h : (Lit.int .u32 a).wf = true) : 0 ≤ a ∧ a ≤ 4294967295 := by
  simpa [Lit.wf, IntKind.min, IntKind.max, IntKind.signed, IntKind.bits] using h
theorem wf_u64 {a : Int} (h : (Lit.int .u64 a).wf = true) : 0 ≤ a ∧ a ≤ 18446744073709551615 := by
  simpa [Lit.wf, IntKind.min, IntKind.max, IntKind.signed, IntKind.bits] using h
theorem ret_bool {a b : Bool} (h : a = b) : Ending.returned (.bool a) = .returned (.bool b) := by rw [h]
theorem next_eq (x i A : Int) (w : World) (hA : A = nt x * 4294967296 + (i + 1)) (hx0 : 0 ≤ x) (hx1 : x ≤ 18446744073709551615) (h0 : -1 ≤ i) (h1 : i ≤ 2147483646) :
    Calls Try.prog 10 #[.int .u64 x, .int .i64 i] w fun e w' => e = .returned (.tuple #[.int .u64 A, .int .i64 0]) ∧ w = w' := by
  rw [hA]; exact next_yes x i w hx0 hx1 h0 h1

theorem make_eq (t i A : Int) (w : World) (hA : A = t * 4294967296 + (i + 1)) (ht0 : 0 ≤ t) (ht1 : t ≤ 4294967295) (h0 : -1 ≤ i) (h1 : i ≤ 2147483646) :
    Calls Try.prog 8 #[.int .u32 t, .int .i64 i] w fun e w' => e = .returned (.tuple #[.int .u64 A, .int .i64 0]) ∧ w = w' := by
  rw [hA]; exact make_yes t i w ht0 ht1 h0 h1

theorem nt_eq (x : Int) (h0 : 0 ≤ x) (h1 : x ≤ 18446744073709551615) : nt x = x / 4294967296 + 1 ∨ (x / 4294967296 = 4294967295 ∧ nt x = 0) := by
  unfold nt; split <;> omega

theorem tagAnother_walk (x i j : Int) (w : World) (hx0 : 0 ≤ x) (hx1 : x ≤ 18446744073709551615) :
    Calls Try.prog 5 #[.int .u64 x, .int .i64 i, .int .i64 j] w fun e w' => e = .returned (.bool true) ∧ w = w' := by
  by_cases hp : -1 ≤ i ∧ i ≤ 2147483646
  · obtain ⟨h0, h1⟩ := hp
    obtain ⟨A, hA⟩ : ∃ A, A = nt x * 4294967296 + (i + 1) := ⟨_, rfl⟩
    have hb := nt_bd x hx0
    have hA0 : 0 ≤ A := by omega
    have hA1 : A ≤ 18446744073709551615 := by omega
    by_cases hq : -1 ≤ j ∧ j ≤ 2147483646
    · obtain ⟨g0, g1⟩ := hq
      obtain ⟨B, hB⟩ : ∃ B, B = nt A * 4294967296 + (j + 1) := ⟨_, rfl⟩
      have hb' := nt_bd A hA0
      have hB0 : 0 ≤ B := by omega
      have hB1 : B ≤ 18446744073709551615 := by omega
      have e1 := nt_eq x hx0 hx1
      have e2 := nt_eq A hA0 hA1
      have k1 : (A == x) = false := by rw [beq_eq_false_iff_ne]; omega
      have k1' : (A != x) = true := by rw [bne_iff_ne]; omega
      have k2 : (B == x) = false := by rw [beq_eq_false_iff_ne]; omega
      have k2' : (B != x) = true := by rw [bne_iff_ne]; omega
      have k3 : (A == B) = false := by rw [beq_eq_false_iff_ne]; omega
      have k3' : (A != B) = true := by rw [bne_iff_ne]; omega
      have k4 : (B % 4294967296 + -1 == j) = true := by rw [beq_iff_eq]; omega
      have k5 : Hid (B / 4294967296 = (x / 4294967296 + 2) % 4294967296) := Lib.hid (by omega)
      have HA := Lib.hid hA
      have HB := Lib.hid hB
      clear hA hB e1 e2 hb hb'
      go_enter Try.func5, Try.ntmps5
      go_wp2_with fail
      refine (next_eq _ _ A _ HA.out hx0 hx1 h0 h1).mono ?_; rintro e w' ⟨rfl, rfl⟩
      go_wp2_with fail
      refine (next_eq _ _ B _ HB.out hA0 hA1 g0 g1).mono ?_; rintro e w' ⟨rfl, rfl⟩
      go_wp2_with (first
        | (go_at_call 12; refine (tagged_is _).mono ?_; rintro e w' ⟨rfl, rfl⟩)
        | (go_at_call 15; refine (index_is _ _ hB0 hB1).mono ?_; rintro e w' ⟨rfl, rfl⟩)
        | (go_at_call 13; refine (tag_is _ _ (by assumption) (by assumption)).mono ?_; rintro e w' ⟨rfl, rfl⟩))
      go_ret
      exact ⟨ret_bool (beq_iff_eq.2 k5.out), rfl⟩
    · have g : j < -1 ∨ 2147483646 < j := by omega
      have HA := Lib.hid hA
      clear hA hb
      go_enter Try.func5, Try.ntmps5
      go_wp2_with fail
      refine (next_eq _ _ A _ HA.out hx0 hx1 h0 h1).mono ?_; rintro e w' ⟨rfl, rfl⟩
      go_wp2_with fail
      refine (next_no _ _ _ hA0 hA1 g).mono ?_; rintro e w' ⟨rfl, rfl⟩
      go_wp2_with (go_at_call 12; refine (tagged_is _).mono ?_; rintro e w' ⟨rfl, rfl⟩)
      go_ret
      exact ⟨rfl, rfl⟩
  · have g : i < -1 ∨ 2147483646 < i := by omega
    by_cases hq : -1 ≤ j ∧ j ≤ 2147483646
    · obtain ⟨g0, g1⟩ := hq
      go_enter Try.func5, Try.ntmps5
      go_wp2_with fail
      refine (next_no _ _ _ hx0 hx1 g).mono ?_; rintro e w' ⟨rfl, rfl⟩
      go_wp2_with fail
      refine (next_yes _ _ _ (by omega) (by omega) g0 g1).mono ?_; rintro e w' ⟨rfl, rfl⟩
      go_wp2_with (go_at_call 12; refine (tagged_is _).mono ?_; rintro e w' ⟨rfl, rfl⟩)
      go_ret
      exact ⟨rfl, rfl⟩
    · have g' : j < -1 ∨ 2147483646 < j := by omega
      go_enter Try.func5, Try.ntmps5
      go_wp2_with fail
      refine (next_no _ _ _ hx0 hx1 g).mono ?_; rintro e w' ⟨rfl, rfl⟩
      go_wp2_with fail
      refine (next_no _ _ _ (by omega) (by omega) g').mono ?_; rintro e w' ⟨rfl, rfl⟩
      go_wp2_with (go_at_call 12; refine (tagged_is _).mono ?_; rintro e w' ⟨rfl, rfl⟩)
      go_ret
      exact ⟨rfl, rfl⟩

theorem tagBack_walk (t i x : Int) (w : World) (ht0 : 0 ≤ t) (ht1 : t ≤ 4294967295) (hx0 : 0 ≤ x) (hx1 : x ≤ 18446744073709551615) :
    Calls Try.prog 4 #[.int .u32 t, .int .i64 i, .int .u64 x] w fun e w' => e = .returned (.bool true) ∧ w = w' := by
  have T : ∀ w : World, Calls Try.prog 13 #[.int .u64 x] w fun e w' => e = .returned (.int .u32 (x / 4294967296)) ∧ w = w' := fun w => tag_is x w hx0 hx1
  have I : ∀ w : World, Calls Try.prog 15 #[.int .u64 x] w fun e w' => e = .returned (.int .i64 (x % 4294967296 + -1)) ∧ w = w' := fun w => index_is x w hx0 hx1
  -- what the second Make comes to: it is x's word again, or no place
  have hM : ∃ B f : Int, Hid ((f = 0 ∧ B = x) ∨ (f = 1 ∧ B = 0)) ∧ Hid (∀ w : World, Calls Try.prog 8 #[.int .u32 (x / 4294967296), .int .i64 (x % 4294967296 + -1)] w fun e w' => e = .returned (.tuple #[.int .u64 B, .int .i64 f]) ∧ w = w') := by
    by_cases h : x % 4294967296 + -1 ≤ 2147483646
    · exact ⟨x, 0, Or.inl ⟨rfl, rfl⟩, fun w => make_eq _ _ _ _ (by omega) (by omega) (by omega) (by omega) h⟩
    · exact ⟨0, 1, Or.inr ⟨rfl, rfl⟩, fun w => make_no _ _ _ (by omega)⟩
  obtain ⟨B, f, hBf, hM⟩ := hM
  have HT := Lib.hid T
  have HI := Lib.hid I
  clear T I
  have hf : f = 0 ∧ B = x ∨ f = 1 ∧ B = 0 := hBf.out
  by_cases hp : -1 ≤ i ∧ i ≤ 2147483646
  · obtain ⟨h0, h1⟩ := hp
    obtain ⟨A, hA⟩ : ∃ A, A = t * 4294967296 + (i + 1) := ⟨_, rfl⟩
    have hA0 : 0 ≤ A := by omega
    have hA1 : A ≤ 18446744073709551615 := by omega
    have k1 : (A / 4294967296 != t) = false := by rw [bne_eq_false_iff_eq]; omega
    have k2 : (A % 4294967296 + -1 != i) = false := by rw [bne_eq_false_iff_eq]; omega
    have HA := Lib.hid hA
    clear hA
    rcases hf with ⟨rfl, rfl⟩ | ⟨rfl, rfl⟩
    all_goals
      go_enter Try.func4, Try.ntmps4
      go_wp2_with fail
      refine (make_eq _ _ A _ HA.out ht0 ht1 h0 h1).mono ?_; rintro e w' ⟨rfl, rfl⟩
      go_wp2_with fail
      refine (tag_is _ _ hA0 hA1).mono ?_; rintro e w' ⟨rfl, rfl⟩
      go_wp2_with fail
      refine (index_is _ _ hA0 hA1).mono ?_; rintro e w' ⟨rfl, rfl⟩
      go_wp2_with fail
      refine (HT.out _).mono ?_; rintro e w' ⟨rfl, rfl⟩
      go_wp2_with fail
      refine (HI.out _).mono ?_; rintro e w' ⟨rfl, rfl⟩
      go_wp2_with fail
      refine (hM.out _).mono ?_; rintro e w' ⟨rfl, rfl⟩
      go_wp2_with (go_at_call 12; refine (tagged_is _).mono ?_; rintro e w' ⟨rfl, rfl⟩)
      go_ret
      exact ⟨rfl, rfl⟩
  · have g : i < -1 ∨ 2147483646 < i := by omega
    rcases hf with ⟨rfl, rfl⟩ | ⟨rfl, rfl⟩ <;> rcases g with g | g
    all_goals
      go_enter Try.func4, Try.ntmps4
      go_wp2_with fail
      refine (make_no _ _ _ (by omega)).mono ?_; rintro e w' ⟨rfl, rfl⟩
      go_wp2_with fail
      refine (HT.out _).mono ?_; rintro e w' ⟨rfl, rfl⟩
      go_wp2_with fail
      refine (HI.out _).mono ?_; rintro e w' ⟨rfl, rfl⟩
      go_wp2_with fail
      refine (hM.out _).mono ?_; rintro e w' ⟨rfl, rfl⟩
      go_wp2_with (go_at_call 12; refine (tagged_is _).mono ?_; rintro e w' ⟨rfl, rfl⟩)
      go_ret
      first | exact ⟨rfl, rfl⟩ | exact ⟨ret_bool (by simp; omega), rfl⟩

theorem tagOrder_walk (t u i k : Int) (w : World) (ht0 : 0 ≤ t) (ht1 : t ≤ 4294967295) (hu0 : 0 ≤ u) (hu1 : u ≤ 4294967295) :
    Calls Try.prog 7 #[.int .u32 t, .int .u32 u, .int .i64 i, .int .i64 k] w fun e w' => e = .returned (.bool true) ∧ w = w' := by
  by_cases hp : -1 ≤ i ∧ i ≤ 2147483646
  · obtain ⟨h0, h1⟩ := hp
    by_cases hq : -1 ≤ k ∧ k ≤ 2147483646
    · obtain ⟨g0, g1⟩ := hq
      obtain ⟨A, hA⟩ : ∃ A, A = t * 4294967296 + (i + 1) := ⟨_, rfl⟩
      obtain ⟨B, hB⟩ : ∃ B, B = u * 4294967296 + (k + 1) := ⟨_, rfl⟩
      have HA := Lib.hid hA
      have HB := Lib.hid hB
      by_cases c1 : t < u
      · have k1 : decide (A < B) = true := by simp; omega
        have k2 : (A == B) = false := by rw [beq_eq_false_iff_ne]; omega
        have k3 : (t == u) = false := by rw [beq_eq_false_iff_ne]; omega
        clear hA hB
        go_enter Try.func7, Try.ntmps7
        go_wp2_with fail
        refine (make_eq _ _ A _ HA.out ht0 ht1 h0 h1).mono ?_; rintro e w' ⟨rfl, rfl⟩
        go_wp2_with fail
        refine (make_eq _ _ B _ HB.out hu0 hu1 g0 g1).mono ?_; rintro e w' ⟨rfl, rfl⟩
        go_wp2_with (go_at_call 12; refine (tagged_is _).mono ?_; rintro e w' ⟨rfl, rfl⟩)
        go_ret
        exact ⟨rfl, rfl⟩
      · by_cases c2 : u < t
        · have k1 : decide (A < B) = false := by simp; omega
          have k2 : (A == B) = false := by rw [beq_eq_false_iff_ne]; omega
          have k3 : (t == u) = false := by rw [beq_eq_false_iff_ne]; omega
          have k4 : decide (t < u) = false := by simp; omega
          clear hA hB c1
          go_enter Try.func7, Try.ntmps7
          go_wp2_with fail
          refine (make_eq _ _ A _ HA.out ht0 ht1 h0 h1).mono ?_; rintro e w' ⟨rfl, rfl⟩
          go_wp2_with fail
          refine (make_eq _ _ B _ HB.out hu0 hu1 g0 g1).mono ?_; rintro e w' ⟨rfl, rfl⟩
          go_wp2_with (go_at_call 12; refine (tagged_is _).mono ?_; rintro e w' ⟨rfl, rfl⟩)
          go_ret
          exact ⟨rfl, rfl⟩
        · obtain rfl : t = u := by omega
          have hk : decide (A < B) = decide (i < k) ∧ (A == B) = (i == k) := by
            constructor
            · rw [decide_eq_decide]; omega
            · rw [Bool.eq_iff_iff, beq_iff_eq, beq_iff_eq]; omega
          obtain ⟨k1, k2⟩ := hk
          obtain ⟨b1, hb1⟩ : ∃ b, decide (i < k) = b := ⟨_, rfl⟩
          obtain ⟨b2, hb2⟩ : ∃ b, (i == k) = b := ⟨_, rfl⟩
          rw [hb1] at k1
          rw [hb2] at k2
          clear hA hB c1 c2
          cases b1 <;> cases b2
          all_goals
            go_enter Try.func7, Try.ntmps7
            go_wp2_with fail
            refine (make_eq _ _ A _ HA.out ht0 ht1 h0 h1).mono ?_; rintro e w' ⟨rfl, rfl⟩
            go_wp2_with fail
            refine (make_eq _ _ B _ HB.out hu0 hu1 g0 g1).mono ?_; rintro e w' ⟨rfl, rfl⟩
            go_wp2_with (go_at_call 12; refine (tagged_is _).mono ?_; rintro e w' ⟨rfl, rfl⟩)
            go_ret
            exact ⟨rfl, rfl⟩
    · have g' : k < -1 ∨ 2147483646 < k := by omega
      go_enter Try.func7, Try.ntmps7
      go_wp2_with fail
      refine (make_yes _ _ _ ht0 ht1 h0 h1).mono ?_; rintro e w' ⟨rfl, rfl⟩
      go_wp2_with fail
      refine (make_no _ _ _ g').mono ?_; rintro e w' ⟨rfl, rfl⟩
      go_wp2_with (go_at_call 12; refine (tagged_is _).mono ?_; rintro e w' ⟨rfl, rfl⟩)
      go_ret
      exact ⟨rfl, rfl⟩
  · have g : i < -1 ∨ 2147483646 < i := by omega
    by_cases hq : -1 ≤ k ∧ k ≤ 2147483646
    · obtain ⟨g0, g1⟩ := hq
      go_enter Try.func7, Try.ntmps7
      go_wp2_with fail
      refine (make_no _ _ _ g).mono ?_; rintro e w' ⟨rfl, rfl⟩
      go_wp2_with fail
      refine (make_yes _ _ _ hu0 hu1 g0 g1).mono ?_; rintro e w' ⟨rfl, rfl⟩
      go_wp2_with (go_at_call 12; refine (tagged_is _).mono ?_; rintro e w' ⟨rfl, rfl⟩)
      go_ret
      exact ⟨rfl, rfl⟩
    · have g' : k < -1 ∨ 2147483646 < k := by omega
      go_enter Try.func7, Try.ntmps7
      go_wp2_with fail
      refine (make_no _ _ _ g).mono ?_; rintro e w' ⟨rfl, rfl⟩
      go_wp2_with fail
      refine (make_no _ _ _ g').mono ?_; rintro e w' ⟨rfl, rfl⟩
      go_wp2_with (go_at_call 12; refine (tagged_is _).mono ?_; rintro e w' ⟨rfl, rfl⟩)
      go_ret
      exact ⟨rfl, rfl⟩

/-- A word that was written k times, the last time with place i. -/
def Written (x i : Int) (k : Nat) (y : Int) : Prop := 0 ≤ y ∧ y ≤ 18446744073709551615 ∧ y / 4294967296 = (x / 4294967296 + k) % 4294967296 ∧ (k = 0 ∨ y % 4294967296 = i + 1)

theorem written_next {x i y : Int} {k : Nat} (h : Written x i k y) (h0 : -1 ≤ i) (h1 : i ≤ 2147483646) : Written x i (k + 1) (nt y * 4294967296 + (i + 1)) := by
  obtain ⟨a, b, c, _⟩ := h
  have e := nt_eq y a b
  have d := nt_bd y a
  refine ⟨by omega, by omega, by omega, Or.inr (by omega)⟩

theorem tagSteps_walk (x i n : Int) (w : World) (hx0 : 0 ≤ x) (hx1 : x ≤ 18446744073709551615) :
    Calls Try.prog 6 #[.int .u64 x, .int .i64 i, .int .i64 n] w fun e w' => e = .returned (.bool true) ∧ w = w' := by
  by_cases hn0 : n < 0
  · go_enter Try.func6, Try.ntmps6
    go_wp2_with (go_at_call 12; refine (tagged_is _).mono ?_; rintro e w' ⟨rfl, rfl⟩)
    go_ret
    exact ⟨rfl, rfl⟩
  have hn0' : 0 ≤ n := by omega
  have hd0 : decide (n < 0) = false := by simp; omega
  by_cases hn1 : 200 < n
  · clear hn0
    go_enter Try.func6, Try.ntmps6
    go_wp2_with (go_at_call 12; refine (tagged_is _).mono ?_; rintro e w' ⟨rfl, rfl⟩)
    go_ret
    exact ⟨rfl, rfl⟩
  have hn1' : n ≤ 200 := by omega
  have hd1 : decide (200 < n) = false := by simp; omega
  clear hn0 hn1
  by_cases hn : n = 0
  · subst hn
    go_enter Try.func6, Try.ntmps6
    go_wp2_with fail
    go_loop [7, 8] (fun y c => c = .int .i64 0 ∧ y = .int .u64 x) (fun _ c => 0)
    case atStart => exact ⟨rfl, rfl⟩
    case round =>
      obtain ⟨rfl, rfl⟩ := hrel
      go_wp2_with (first
        | (go_at_call 12; refine (tagged_is _).mono ?_; rintro e w' ⟨rfl, rfl⟩)
        | (go_at_call 13; refine (tag_is _ _ hx0 hx1).mono ?_; rintro e w' ⟨rfl, rfl⟩))
      go_ret
      exact ⟨ret_bool (by first | (simp; done) | (simp; omega)), rfl⟩
  have hn2 : 0 < n := by omega
  clear hn
  by_cases hp : -1 ≤ i ∧ i ≤ 2147483646
  · obtain ⟨h0, h1⟩ := hp
    go_enter Try.func6, Try.ntmps6
    go_wp2_with fail
    go_loop [7, 8] (fun y c => ∃ (k : Nat) (z : Int), (k : Int) ≤ n ∧ c = .int .i64 k ∧ y = .int .u64 z ∧ Written x i k z) (fun _ c => (n - intOf c).toNat)
    case atStart => exact ⟨0, x, by omega, rfl, rfl, hx0, hx1, by simp; omega, Or.inl rfl⟩
    case round =>
      obtain ⟨k, z, hk, rfl, rfl, hz⟩ := hrel
      have hz0 : 0 ≤ z := hz.1
      have hz1 : z ≤ 18446744073709551615 := hz.2.1
      have HZ := Lib.hid hz
      clear hz
      by_cases hlt : (k : Int) < n
      · go_wp2_with fail
        refine (next_yes _ _ _ hz0 hz1 h0 h1).mono ?_; rintro e w' ⟨rfl, rfl⟩
        go_wp2
        go_round
        case rel => exact ⟨k + 1, _, by omega, by go_num, rfl, written_next HZ.out h0 h1⟩
        case measure => simp [intOf]; omega
      · obtain rfl : n = (k : Int) := by omega
        obtain ⟨_, _, hz2, hz3⟩ := HZ.out
        have k5 : Hid (z / 4294967296 = (x / 4294967296 + k) % 4294967296) := Lib.hid hz2
        have hz4 : (z % 4294967296 + -1 == i) = true := by rw [beq_iff_eq]; omega
        have hk1 : ((k : Int) == 0) = false := by rw [beq_eq_false_iff_ne]; omega
        have hk2 : Hid ((z / 4294967296 == (x / 4294967296 + (k : Int)) % 4294967296) = true) := Lib.hid (beq_iff_eq.2 hz2)
        clear hz2 hz3 hlt hk
        go_wp2_with (first
          | (go_at_call 12; refine (tagged_is _).mono ?_; rintro e w' ⟨rfl, rfl⟩)
          | (go_at_call 15; refine (index_is _ _ hz0 hz1).mono ?_; rintro e w' ⟨rfl, rfl⟩)
          | (go_at_call 13; refine (tag_is _ _ (by assumption) (by assumption)).mono ?_; rintro e w' ⟨rfl, rfl⟩))
        all_goals
          go_ret
          exact ⟨ret_bool (by first | rfl | exact hk2.out), rfl⟩
  · have g : i < -1 ∨ 2147483646 < i := by omega
    rcases g with g | g
    all_goals
      go_enter Try.func6, Try.ntmps6
      go_wp2_with fail
      go_loop [7, 8] (fun y c => c = .int .i64 0 ∧ y = .int .u64 x) (fun _ c => 0)
      case atStart => exact ⟨rfl, rfl⟩
      case round =>
        obtain ⟨rfl, rfl⟩ := hrel
        go_wp2_with fail
        refine (next_no _ _ _ hx0 hx1 (by omega)).mono ?_; rintro e w' ⟨rfl, rfl⟩
        go_wp2_with (go_at_call 12; refine (tagged_is _).mono ?_; rintro e w' ⟨rfl, rfl⟩)
        go_ret
        first | exact ⟨rfl, rfl⟩ | exact ⟨ret_bool (by simp; omega), rfl⟩
end Go.Proofs.Ythmpgmgmbdmniaa
