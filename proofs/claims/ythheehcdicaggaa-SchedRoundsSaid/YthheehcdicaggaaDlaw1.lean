/- SchedPicks, SchedFair: the walks, over what the program's four calls say. -/
import Derived.Test.YthheehcdicaggaaDpicked
namespace Go.Proofs.Ythheehcdicaggaa
open Go.RowKit
set_option linter.unusedVariables false
set_option linter.unusedSimpArgs false
set_option maxRecDepth 100000

theorem round_len (t n : Int) : (roundI t n).1.length ≤ 4000 := by
  unfold roundI
  by_cases hc : t < 1 ∨ 8 < t ∨ n < 0 ∨ 4000 < n
  · rw [if_pos hc]; simp
  · rw [if_neg hc, turns_len]; omega

set_option maxHeartbeats 4000000 in
theorem schedPicks_walk (K : Words9) (p : Int) (A : Option Addr) (c : Nat) (l : List Int) (t n : Int) (w : World) (hp : (Lit.int .i64 p).wf = true) (hl : IntsIn .i64 w A c l) (ht : (Lit.int .i64 t).wf = true) (hn : (Lit.int .i64 n).wf = true) :
    Calls Try.prog 3 #[.int .i64 p, .slice A l.length c, .int .i64 t, .int .i64 n] w fun e w' => e = .returned (.bool true) ∧ Below w.heap.size w w' := by
  have HK := Lib.hid K
  have N0 := Lib.hid (nums_of hl)
  have VP := Lib.hid (i64_of hp)
  have VT := Lib.hid (i64_of ht)
  have VN := Lib.hid (i64_of hn)
  have m1 := Nat.le_trans hl.2.1 hl.2.2.1
  unfold maxLen at m1
  obtain ⟨d1, hd1⟩ : ∃ d, decide ((1000 : Int) < (l.length : Int)) = d := ⟨_, rfl⟩
  clear K hp hl ht hn
  go_enter Try.func3, Try.ntmps3
  cases d1 with
  | true =>
    go_wp2_with fail
    go_ret
    exact ⟨rfl, Below.refl _ _⟩
  | false =>
  have n1 : l.length ≤ 1000 := by have := of_decide_eq_false hd1; omega
  have N1 := Lib.hid n1
  have hq := HK.out.pick p A c l w N0.out n1 VP.out
  obtain ⟨X, hX⟩ : ∃ X, pickI p l = X := ⟨_, rfl⟩
  rw [hX] at hq
  have HX := Lib.hid hX
  clear hX n1
  obtain ⟨x1, x2⟩ := X
  go_wp2_with fail
  refine hq.mono ?_
  rintro e W1 ⟨rfl, k1⟩
  clear hq
  have B1 := Lib.hid k1
  have hq := rpick_is p A c l W1 (N0.out.below k1).r (by have := N1.out; omega) VP.out.2
  rw [HX.out] at hq
  clear k1
  go_wp2_with fail
  refine hq.mono ?_
  rintro e W2 ⟨rfl, k2⟩
  clear hq
  have B2 := Lib.hid (below_next B1.out k2)
  clear k2
  have hq := HK.out.round t n W2 VT.out VN.out
  have L3 := Lib.hid (round_len t n)
  obtain ⟨Y, hY⟩ : ∃ Y, roundI t n = Y := ⟨_, rfl⟩
  rw [hY] at hq L3
  have HY := Lib.hid hY
  clear hY
  obtain ⟨y1, y2⟩ := Y
  go_wp2_with fail
  refine hq.mono ?_
  rintro e W3 ⟨A3, c3, rfl, r3, _, _, k3⟩
  have B3 := Lib.hid (below_next B2.out k3)
  have R3 := Lib.hid r3
  clear hq r3 k3
  have hq := rround_is t n W3
  rw [HY.out] at hq
  go_wp2_with fail
  refine hq.mono ?_
  rintro e W4 ⟨A4, c4, rfl, r4, _, _, k4⟩
  have B4 := Lib.hid (below_next B3.out k4)
  have T3 := Lib.hid ((R3.out.below k4).more k4.size)
  have R4 := Lib.hid r4
  clear hq r4 k4
  go_wp2_with fail
  refine (picked_is HK.out W4).mono ?_
  rintro e W5 ⟨rfl, k5⟩
  have B5 := Lib.hid (below_next B4.out k5)
  have S3 := Lib.hid ((T3.out.below k5).more k5.size)
  have S4 := Lib.hid ((R4.out.below k5).more k5.size)
  clear k5
  have hq := sameI_yes A3 A4 c3 c4 _ _ y1 W5 (by have h3 : y1.length ≤ 4000 := L3.out; unfold maxLen; omega) S3 S4
  go_wp2_with fail
  refine hq.mono ?_
  rintro e W6 ⟨rfl, k6⟩
  have B6 := Lib.hid (below_next B5.out k6)
  clear hq k6
  go_wp2_with fail
  go_ret
  exact ⟨rfl, B6.out⟩

set_option maxHeartbeats 4000000 in
theorem schedFair_walk (K : Words9) (A : Option Addr) (c : Nat) (l : List Int) (t b : Int) (w : World) (hl : IntsIn .i64 w A c l) (ht : (Lit.int .i64 t).wf = true) (hb : (Lit.int .i64 b).wf = true) :
    Calls Try.prog 4 #[.slice A l.length c, .int .i64 t, .int .i64 b] w fun e w' => e = .returned (.bool true) ∧ Below w.heap.size w w' := by
  have HK := Lib.hid K
  have N0 := Lib.hid (nums_of hl)
  have VT := Lib.hid (i64_of ht)
  have VB := Lib.hid (i64_of hb)
  have m1 := Nat.le_trans hl.2.1 hl.2.2.1
  unfold maxLen at m1
  obtain ⟨d1, hd1⟩ : ∃ d, decide ((60 : Int) < (l.length : Int)) = d := ⟨_, rfl⟩
  obtain ⟨d2, hd2⟩ : ∃ d, decide ((20 : Int) < t) = d := ⟨_, rfl⟩
  clear K hl ht hb
  go_enter Try.func4, Try.ntmps4
  cases d1 with
  | true =>
    go_wp2_with fail
    go_ret
    exact ⟨rfl, Below.refl _ _⟩
  | false =>
  cases d2 with
  | true =>
    go_wp2_with fail
    go_ret
    exact ⟨rfl, Below.refl _ _⟩
  | false =>
  have n1 : l.length ≤ 60 := by have := of_decide_eq_false hd1; omega
  have n2 : t ≤ 20 := by have := of_decide_eq_false hd2; omega
  have N1 := Lib.hid n1
  have N2 := Lib.hid n2
  clear n1 n2
  go_wp2_with fail
  refine (picked_is HK.out w).mono ?_
  rintro e W1 ⟨rfl, k1⟩
  have B1 := Lib.hid k1
  have M1 := Lib.hid (N0.out.below k1)
  clear k1
  have hq := HK.out.fair A c l t b W1 M1.out (by have := N1.out; omega) VT.out N2.out VB.out
  obtain ⟨R, hR⟩ : ∃ R, fairI l t b = R := ⟨_, rfl⟩
  rw [hR] at hq
  have HR := Lib.hid hR
  clear hR
  go_wp2_with fail
  refine hq.mono ?_
  rintro e W2 ⟨rfl, k2⟩
  have B2 := Lib.hid (below_next B1.out k2)
  have M2 := Lib.hid (M1.out.below k2)
  clear hq k2
  have hq := rfair_is A c l t b W2 M2.out.r (by have := N1.out; omega) M2.out.lc M2.out.cm VT.out.2 VB.out.2
  rw [HR.out] at hq
  go_wp2_with fail
  refine hq.mono ?_
  rintro e W3 ⟨rfl, rfl⟩
  clear hq
  have hq := HK.out.most A c l t W3 M2.out (by have := N1.out; omega) VT.out N2.out
  obtain ⟨Q, hQ⟩ : ∃ Q, mostI l t = Q := ⟨_, rfl⟩
  rw [hQ] at hq
  have HQ := Lib.hid hQ
  clear hQ
  go_wp2_with fail
  refine hq.mono ?_
  rintro e W4 ⟨rfl, k4⟩
  have B4 := Lib.hid (below_next B2.out k4)
  have M4 := Lib.hid (M2.out.below k4)
  clear hq k4
  have hq := rmost_is A c l t W4 M4.out.r (by have := N1.out; omega) M4.out.lc M4.out.cm VT.out.2
  rw [HQ.out] at hq
  go_wp2_with fail
  refine hq.mono ?_
  rintro e W5 ⟨rfl, rfl⟩
  clear hq
  go_wp2_with fail
  go_ret
  exact ⟨rfl, B4.out⟩
end Go.Proofs.Ythheehcdicaggaa
