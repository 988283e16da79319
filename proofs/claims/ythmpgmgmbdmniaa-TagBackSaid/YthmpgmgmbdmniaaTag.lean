/- Contracts of package tag and of its document's answer, and the five walks of layer 1's statements. -/
import Derived.Test.YthmpgmgmbdmniaaRows
import Derived.WalkKit
import Derived.ProofKit
import Derived.OpenShut
import Derived.Lib.Hide
namespace Go.Proofs.Ythmpgmgmbdmniaa
open Go.ChangeShapes Go.WideShapes Go.ChangeAt Go.RowKit
set_option linter.unusedVariables false

theorem ret_int {k : IntKind} {a b : Int} (h : a = b) : Ending.returned (.int k a) = .returned (.int k b) := by rw [h]
/-- The tag behind a word's. -/
def nt (x : Int) : Int := if x / 4294967296 < 4294967295 then x / 4294967296 + 1 else 0
theorem nt_bd (x : Int) (h0 : 0 ≤ x) : 0 ≤ nt x ∧ nt x ≤ 4294967295 := by
  unfold nt; split <;> omega

theorem isPlace_yes (i : Int) (w : World) (h0 : -1 ≤ i) (h1 : i ≤ 2147483646) :
    Calls Try.prog 17 #[.int .i64 i] w fun e w' => e = .returned (.bool true) ∧ w = w' := by
  go_enter Try.func17, Try.ntmps17
  go_wp2
  go_ret
  exact ⟨rfl, rfl⟩

theorem isPlace_no (i : Int) (w : World) (h : i < -1 ∨ 2147483646 < i) :
    Calls Try.prog 17 #[.int .i64 i] w fun e w' => e = .returned (.bool false) ∧ w = w' := by
  rcases h with h | h
  · go_enter Try.func17, Try.ntmps17
    go_wp2
    go_ret
    exact ⟨rfl, rfl⟩
  · have h2 : -1 ≤ i := by omega
    have h3 : decide (i ≤ 2147483646) = false := by simp; omega
    go_enter Try.func17, Try.ntmps17
    go_wp2
    go_ret
    exact ⟨rfl, rfl⟩

theorem make_yes (t i : Int) (w : World) (ht0 : 0 ≤ t) (ht1 : t ≤ 4294967295) (h0 : -1 ≤ i) (h1 : i ≤ 2147483646) :
    Calls Try.prog 8 #[.int .u32 t, .int .i64 i] w fun e w' => e = .returned (.tuple #[.int .u64 (t * 4294967296 + (i + 1)), .int .i64 0]) ∧ w = w' := by
  go_enter Try.func8, Try.ntmps8
  go_wp2_with (go_at_call 17; refine (isPlace_yes _ _ (by omega) (by omega)).mono ?_; rintro e w' ⟨rfl, rfl⟩)
  go_ret2
  exact ⟨rfl, rfl⟩

theorem make_no (t i : Int) (w : World) (h : i < -1 ∨ 2147483646 < i) :
    Calls Try.prog 8 #[.int .u32 t, .int .i64 i] w fun e w' => e = .returned (.tuple #[.int .u64 0, .int .i64 1]) ∧ w = w' := by
  go_enter Try.func8, Try.ntmps8
  go_wp2_with (go_at_call 17; refine (isPlace_no _ _ h).mono ?_; rintro e w' ⟨rfl, rfl⟩)
  go_ret2
  exact ⟨rfl, rfl⟩

theorem tag_is (x : Int) (w : World) (h0 : 0 ≤ x) (h1 : x ≤ 18446744073709551615) :
    Calls Try.prog 13 #[.int .u64 x] w fun e w' => e = .returned (.int .u32 (x / 4294967296)) ∧ w = w' := by
  go_enter Try.func13, Try.ntmps13
  go_wp2
  go_ret
  exact ⟨rfl, rfl⟩

theorem index_is (x : Int) (w : World) (h0 : 0 ≤ x) (h1 : x ≤ 18446744073709551615) :
    Calls Try.prog 15 #[.int .u64 x] w fun e w' => e = .returned (.int .i64 (x % 4294967296 + -1)) ∧ w = w' := by
  go_enter Try.func15, Try.ntmps15
  go_wp2
  go_ret
  exact ⟨rfl, rfl⟩

theorem next_yes (x i : Int) (w : World) (hx0 : 0 ≤ x) (hx1 : x ≤ 18446744073709551615) (h0 : -1 ≤ i) (h1 : i ≤ 2147483646) :
    Calls Try.prog 10 #[.int .u64 x, .int .i64 i] w fun e w' => e = .returned (.tuple #[.int .u64 (nt x * 4294967296 + (i + 1)), .int .i64 0]) ∧ w = w' := by
  by_cases h : x / 4294967296 < 4294967295
  · have hn : Hid (nt x = x / 4294967296 + 1) := Lib.hid (by unfold nt; rw [if_pos h])
    rw [hn.out]
    go_enter Try.func10, Try.ntmps10
    go_wp2_with (first | (go_at_call 13; refine (tag_is _ _ (by omega) (by omega)).mono ?_; rintro e w' ⟨rfl, rfl⟩) | (go_at_call 8; refine (make_yes _ _ _ (by omega) (by omega) (by omega) (by omega)).mono ?_; rintro e w' ⟨rfl, rfl⟩))
    go_ret2
    exact ⟨rfl, rfl⟩
  · have hn : Hid (nt x = 0) := Lib.hid (by unfold nt; rw [if_neg h])
    rw [hn.out]
    have hy : Hid (x / 4294967296 = 4294967295) := Lib.hid (by omega)
    go_enter Try.func10, Try.ntmps10
    go_wp2_with (first | (go_at_call 13; refine (tag_is _ _ (by omega) (by omega)).mono ?_; rw [hy.out]; rintro e w' ⟨rfl, rfl⟩) | (go_at_call 8; refine (make_yes _ _ _ (by omega) (by omega) (by omega) (by omega)).mono ?_; rintro e w' ⟨rfl, rfl⟩))
    go_ret2
    exact ⟨by simp, rfl⟩

theorem next_no (x i : Int) (w : World) (hx0 : 0 ≤ x) (hx1 : x ≤ 18446744073709551615) (h : i < -1 ∨ 2147483646 < i) :
    Calls Try.prog 10 #[.int .u64 x, .int .i64 i] w fun e w' => e = .returned (.tuple #[.int .u64 0, .int .i64 1]) ∧ w = w' := by
  go_enter Try.func10, Try.ntmps10
  go_wp2_with (first | (go_at_call 13; refine (tag_is _ _ (by omega) (by omega)).mono ?_; rintro e w' ⟨rfl, rfl⟩) | (go_at_call 8; refine (make_no _ _ _ h).mono ?_; rintro e w' ⟨rfl, rfl⟩))
  go_ret2
  exact ⟨rfl, rfl⟩

theorem tagged_is (w : World) :
    Calls Try.prog 12 #[] w fun e w' => e = .returned (.bool true) ∧ w = w' := by
  go_enter Try.func12, Try.ntmps12
  go_wp2
  go_ret
  exact ⟨rfl, rfl⟩

/-! The document's answer. -/
theorem rplace_yes (i : Int) (w : World) (h0 : -1 ≤ i) (h1 : i ≤ 2147483646) :
    Calls Try.prog 18 #[.int .i64 i] w fun e w' => e = .returned (.bool true) ∧ w = w' := by
  go_enter Try.func18, Try.ntmps18
  go_wp2
  go_ret
  exact ⟨rfl, rfl⟩

theorem rplace_no (i : Int) (w : World) (h : i < -1 ∨ 2147483646 < i) :
    Calls Try.prog 18 #[.int .i64 i] w fun e w' => e = .returned (.bool false) ∧ w = w' := by
  rcases h with h | h
  · go_enter Try.func18, Try.ntmps18
    go_wp2
    go_ret
    exact ⟨rfl, rfl⟩
  · have h2 : -1 ≤ i := by omega
    have h3 : decide (i ≤ 2147483646) = false := by simp; omega
    go_enter Try.func18, Try.ntmps18
    go_wp2
    go_ret
    exact ⟨rfl, rfl⟩

theorem rmake_yes (t i : Int) (w : World) (ht0 : 0 ≤ t) (ht1 : t ≤ 4294967295) (h0 : -1 ≤ i) (h1 : i ≤ 2147483646) :
    Calls Try.prog 9 #[.int .u32 t, .int .i64 i] w fun e w' => e = .returned (.tuple #[.int .u64 (t * 4294967296 + (i + 1)), .int .i64 0]) ∧ w = w' := by
  go_enter Try.func9, Try.ntmps9
  go_wp2_with (go_at_call 18; refine (rplace_yes _ _ (by omega) (by omega)).mono ?_; rintro e w' ⟨rfl, rfl⟩)
  go_ret2
  exact ⟨rfl, rfl⟩

theorem rmake_no (t i : Int) (w : World) (h : i < -1 ∨ 2147483646 < i) :
    Calls Try.prog 9 #[.int .u32 t, .int .i64 i] w fun e w' => e = .returned (.tuple #[.int .u64 0, .int .i64 1]) ∧ w = w' := by
  go_enter Try.func9, Try.ntmps9
  go_wp2_with (go_at_call 18; refine (rplace_no _ _ h).mono ?_; rintro e w' ⟨rfl, rfl⟩)
  go_ret2
  exact ⟨rfl, rfl⟩

theorem rtag_is (x : Int) (w : World) (h0 : 0 ≤ x) (h1 : x ≤ 18446744073709551615) :
    Calls Try.prog 14 #[.int .u64 x] w fun e w' => e = .returned (.int .u32 (x / 4294967296)) ∧ w = w' := by
  go_enter Try.func14, Try.ntmps14
  go_wp2
  go_ret
  exact ⟨rfl, rfl⟩

theorem rindex_is (x : Int) (w : World) (h0 : 0 ≤ x) (h1 : x ≤ 18446744073709551615) :
    Calls Try.prog 16 #[.int .u64 x] w fun e w' => e = .returned (.int .i64 (x % 4294967296 + -1)) ∧ w = w' := by
  go_enter Try.func16, Try.ntmps16
  go_wp2
  go_ret
  exact ⟨ret_int (by omega), rfl⟩

theorem rnext_yes (x i : Int) (w : World) (hx0 : 0 ≤ x) (hx1 : x ≤ 18446744073709551615) (h0 : -1 ≤ i) (h1 : i ≤ 2147483646) :
    Calls Try.prog 11 #[.int .u64 x, .int .i64 i] w fun e w' => e = .returned (.tuple #[.int .u64 (nt x * 4294967296 + (i + 1)), .int .i64 0]) ∧ w = w' := by
  by_cases h : x / 4294967296 < 4294967295
  · have hn : Hid (nt x = x / 4294967296 + 1) := Lib.hid (by unfold nt; rw [if_pos h])
    rw [hn.out]
    go_enter Try.func11, Try.ntmps11
    go_wp2_with (first | (go_at_call 14; refine (rtag_is _ _ (by omega) (by omega)).mono ?_; rintro e w' ⟨rfl, rfl⟩) | (go_at_call 9; refine (rmake_yes _ _ _ (by omega) (by omega) (by omega) (by omega)).mono ?_; rintro e w' ⟨rfl, rfl⟩))
    go_ret2
    exact ⟨rfl, rfl⟩
  · have hn : Hid (nt x = 0) := Lib.hid (by unfold nt; rw [if_neg h])
    rw [hn.out]
    go_enter Try.func11, Try.ntmps11
    go_wp2_with (first | (go_at_call 14; refine (rtag_is _ _ (by omega) (by omega)).mono ?_; rintro e w' ⟨rfl, rfl⟩) | (go_at_call 9; refine (rmake_yes _ _ _ (by omega) (by omega) (by omega) (by omega)).mono ?_; rintro e w' ⟨rfl, rfl⟩))
    go_ret2
    exact ⟨by simp, rfl⟩

theorem rnext_no (x i : Int) (w : World) (hx0 : 0 ≤ x) (hx1 : x ≤ 18446744073709551615) (h : i < -1 ∨ 2147483646 < i) :
    Calls Try.prog 11 #[.int .u64 x, .int .i64 i] w fun e w' => e = .returned (.tuple #[.int .u64 0, .int .i64 1]) ∧ w = w' := by
  by_cases h9 : x / 4294967296 < 4294967295
  all_goals
    go_enter Try.func11, Try.ntmps11
    go_wp2_with (first | (go_at_call 14; refine (rtag_is _ _ (by omega) (by omega)).mono ?_; rintro e w' ⟨rfl, rfl⟩) | (go_at_call 9; refine (rmake_no _ _ _ h).mono ?_; rintro e w' ⟨rfl, rfl⟩))
    go_ret2
    exact ⟨rfl, rfl⟩

/-! The statements' walks. -/
theorem tagWords_walk (t i x : Int) (w : World) (ht0 : 0 ≤ t) (ht1 : t ≤ 4294967295) (hx0 : 0 ≤ x) (hx1 : x ≤ 18446744073709551615) :
    Calls Try.prog 3 #[.int .u32 t, .int .i64 i, .int .u64 x] w fun e w' => e = .returned (.bool true) ∧ w = w' := by
  by_cases hp : -1 ≤ i ∧ i ≤ 2147483646
  · obtain ⟨h0, h1⟩ := hp
    go_enter Try.func3, Try.ntmps3
    go_wp2_with (first
      | (go_at_call 8; refine (make_yes _ _ _ ht0 ht1 h0 h1).mono ?_; rintro e w' ⟨rfl, rfl⟩)
      | (go_at_call 9; refine (rmake_yes _ _ _ ht0 ht1 h0 h1).mono ?_; rintro e w' ⟨rfl, rfl⟩)
      | (go_at_call 10; refine (next_yes _ _ _ hx0 hx1 h0 h1).mono ?_; rintro e w' ⟨rfl, rfl⟩)
      | (go_at_call 11; refine (rnext_yes _ _ _ hx0 hx1 h0 h1).mono ?_; rintro e w' ⟨rfl, rfl⟩)
      | (go_at_call 13; refine (tag_is _ _ hx0 hx1).mono ?_; rintro e w' ⟨rfl, rfl⟩)
      | (go_at_call 14; refine (rtag_is _ _ hx0 hx1).mono ?_; rintro e w' ⟨rfl, rfl⟩)
      | (go_at_call 15; refine (index_is _ _ hx0 hx1).mono ?_; rintro e w' ⟨rfl, rfl⟩)
      | (go_at_call 16; refine (rindex_is _ _ hx0 hx1).mono ?_; rintro e w' ⟨rfl, rfl⟩)
      | (go_at_call 12; refine (tagged_is _).mono ?_; rintro e w' ⟨rfl, rfl⟩))
    go_ret
    exact ⟨rfl, rfl⟩
  · have hn : i < -1 ∨ 2147483646 < i := by omega
    go_enter Try.func3, Try.ntmps3
    go_wp2_with (first
      | (go_at_call 8; refine (make_no _ _ _ hn).mono ?_; rintro e w' ⟨rfl, rfl⟩)
      | (go_at_call 9; refine (rmake_no _ _ _ hn).mono ?_; rintro e w' ⟨rfl, rfl⟩)
      | (go_at_call 10; refine (next_no _ _ _ hx0 hx1 hn).mono ?_; rintro e w' ⟨rfl, rfl⟩)
      | (go_at_call 11; refine (rnext_no _ _ _ hx0 hx1 hn).mono ?_; rintro e w' ⟨rfl, rfl⟩)
      | (go_at_call 13; refine (tag_is _ _ hx0 hx1).mono ?_; rintro e w' ⟨rfl, rfl⟩)
      | (go_at_call 14; refine (rtag_is _ _ hx0 hx1).mono ?_; rintro e w' ⟨rfl, rfl⟩)
      | (go_at_call 15; refine (index_is _ _ hx0 hx1).mono ?_; rintro e w' ⟨rfl, rfl⟩)
      | (go_at_call 16; refine (rindex_is _ _ hx0 hx1).mono ?_; rintro e w' ⟨rfl, rfl⟩)
      | (go_at_call 12; refine (tagged_is _).mono ?_; rintro e w' ⟨rfl, rfl⟩))
    go_ret
    exact ⟨rfl, rfl⟩
end Go.Proofs.Ythmpgmgmbdmniaa
