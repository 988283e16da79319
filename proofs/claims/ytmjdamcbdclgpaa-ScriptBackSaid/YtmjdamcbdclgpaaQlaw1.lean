/- The walks of ScriptBytes and ScriptBack, over what the program's four calls say. -/
import Derived.Test.YtmjdamcbdclgpaaQwritten
namespace Go.Proofs.Ytmjdamcbdclgpaa
open Go.RowKit
set_option linter.unusedVariables false
set_option linter.unusedSimpArgs false
set_option maxRecDepth 100000

theorem wf_byte {x : Int} (h : (Lit.int .u8 x).wf = true) : 0 ≤ x ∧ x < 256 := by
  have h' : IntKind.u8.min ≤ x ∧ x ≤ IntKind.u8.max := by simpa [Lit.wf] using h
  have e1 : IntKind.u8.min = 0 := rfl
  have e2 : IntKind.u8.max = 255 := rfl
  omega
theorem wf_int {x : Int} (h : (Lit.int .i64 x).wf = true) : x < 9223372036854775808 := by
  have h' : IntKind.i64.min ≤ x ∧ x ≤ 9223372036854775807 := by simpa [Lit.wf] using h
  omega
theorem bytes_len {l : List Int} (h : ∀ x ∈ l, x < 9223372036854775808) : (bytesI l).1.length ≤ 36000 := by
  unfold bytesI
  split
  · simp
  · split
    · simp
    · have := encL_len h
      simp only
      omega
theorem bytes_byte (l : List Int) : ∀ x ∈ (bytesI l).1, 0 ≤ x ∧ x < 256 := by
  unfold bytesI
  split
  · simp
  · split
    · simp
    · exact encL_byte l
theorem decL_len (n : Nat) (b : List Int) : (decL n b).1.length ≤ n := by
  induction n generalizing b with
  | zero =>
    rw [decL]
    split
    · simp
    · split <;> simp
  | succ n ih =>
    rw [decL]
    split
    · simp
    · split
      · simp
      · rename_i m r _
        have := ih r
        cases ((decL n r).2 == 0)
        · simp
        · simp; omega

set_option maxHeartbeats 4000000 in
theorem scriptBytes_walk (K : Words8) (A : Option Addr) (c : Nat) (l : List Int) (A' : Option Addr) (c' : Nat) (b : List Int) (w : World) (hl : IntsIn .i64 w A c l) (hb : IntsIn .u8 w A' c' b) :
    Calls Try.prog 4 #[.slice A l.length c, .slice A' b.length c'] w fun e w' => e = .returned (.bool true) ∧ Below w.heap.size w w' := by
  have HK := Lib.hid K
  obtain ⟨r1, l1, l2, v1, _⟩ := hl
  obtain ⟨r2, l3, l4, v2, _⟩ := hb
  have R1 := Lib.hid r1
  have R2 := Lib.hid r2
  have V1 := Lib.hid fun x hx => wf_int (v1 x hx)
  have V2 := Lib.hid fun x hx => wf_byte (v2 x hx)
  have C2 := Lib.hid (⟨l3, l4⟩ : _ ∧ _)
  have m1 := Nat.le_trans l1 l2
  have m2 := Nat.le_trans l3 l4
  unfold maxLen at m1 m2
  obtain ⟨d1, hd1⟩ : ∃ d, decide ((5000 : Int) < (l.length : Int)) = d := ⟨_, rfl⟩
  obtain ⟨d2, hd2⟩ : ∃ d, decide ((10000 : Int) < (b.length : Int)) = d := ⟨_, rfl⟩
  clear K r1 r2 v1 v2 l1 l2 l3 l4
  go_enter Try.func4, Try.ntmps4
  cases d1 with
  | true =>
    go_wp2_with fail
    go_ret
    exact ⟨rfl, Below.refl _ _⟩
  | false =>
  cases d2 with
  | true =>
    go_wp2_with fail
    go_ret
    exact ⟨rfl, Below.refl _ _⟩
  | false =>
  have n1 : l.length ≤ 5000 := by have := of_decide_eq_false hd1; omega
  have n2 : b.length ≤ 40000 := by have := of_decide_eq_false hd2; omega
  have hq := HK.out.bytes A c l w R1.out n1 V1.out
  have L1 := Lib.hid (bytes_len V1.out)
  have L2 := Lib.hid (decL_len 4000 b)
  have N1 := Lib.hid n1
  have N2 := Lib.hid n2
  clear n1 n2
  obtain ⟨X, hX⟩ : ∃ X, bytesI l = X := ⟨_, rfl⟩
  obtain ⟨Y, hY⟩ : ∃ Y, picksI b = Y := ⟨_, rfl⟩
  have HX := Lib.hid hX
  have HY := Lib.hid hY
  rw [hX] at hq L1
  rw [show decL 4000 b = Y from hY] at L2
  obtain ⟨xs, xe⟩ := X
  obtain ⟨ys, ye⟩ := Y
  clear hX hY
  go_wp2_with fail
  clear hd1 hd2
  refine hq.mono ?_
  rintro e W1 ⟨A1, c1, rfl, s1, _, _, k1⟩
  have hq := rbytes_is A c l W1 ((R1.out.below k1).more k1.size) N1.out V1.out
  rw [HX.out] at hq
  have K1 := Lib.hid k1
  have S1 := Lib.hid s1
  clear k1 s1
  go_wp2_with fail
  refine hq.mono ?_
  rintro e W2 ⟨A2, c2, rfl, s2, _, _, k2⟩
  have K2 := Lib.hid (below_next K1.out k2)
  have T1 := Lib.hid ((S1.out.below k2).more k2.size)
  have S2 := Lib.hid s2
  clear k2 s2 hq
  have hq := HK.out.picks A' c' b W2 ((R2.out.below K2.out).more K2.out.size) C2.out.1 C2.out.2 V2.out
  rw [HY.out] at hq
  go_wp2_with fail
  refine hq.mono ?_
  rintro e W3 ⟨A3, c3, rfl, s3, _, _, k3⟩
  have K3 := Lib.hid (below_next K2.out k3)
  replace T1 := Lib.hid ((T1.out.below k3).more k3.size)
  replace S2 := Lib.hid ((S2.out.below k3).more k3.size)
  have S3 := Lib.hid s3
  clear k3 s3 hq
  have hq := rpicks_is A' c' b W3 ((R2.out.below K3.out).more K3.out.size) N2.out V2.out
  rw [HY.out] at hq
  go_wp2_with fail
  refine hq.mono ?_
  rintro e W4 ⟨A4, c4, rfl, s4, _, _, k4⟩
  have K4 := Lib.hid (below_next K3.out k4)
  replace T1 := Lib.hid ((T1.out.below k4).more k4.size)
  replace S2 := Lib.hid ((S2.out.below k4).more k4.size)
  replace S3 := Lib.hid ((S3.out.below k4).more k4.size)
  have S4 := Lib.hid s4
  clear k4 s4 hq
  go_wp2_with fail
  refine (written_is HK.out W4).mono ?_
  rintro e W5 ⟨rfl, k5⟩
  have K5 := Lib.hid (below_next K4.out k5)
  have hq1 := sameB_yes A1 A2 c1 c2 W5.heap.size W5.heap.size xs W5 ((T1.out.below k5).more k5.size) ((S2.out.below k5).more k5.size)
  have hq2 := sameI_yes A3 A4 c3 c4 W5.heap.size W5.heap.size ys W5 (by have := L2.out; simp [maxLen]; omega) (Lib.hid ((S3.out.below k5).more k5.size)) (Lib.hid ((S4.out.below k5).more k5.size))
  clear k5
  go_wp2_with fail
  refine hq1.mono ?_
  rintro e W6 ⟨rfl, rfl⟩
  have xx : (xe == xe) = true := by simp
  have yy : (ye == ye) = true := by simp
  go_wp2_with fail
  refine hq2.mono ?_
  rintro e W7 ⟨rfl, k7⟩
  have B9 := below_next K5.out k7
  clear k7
  go_wp2_with fail
  go_ret
  exact ⟨rfl, B9⟩
end Go.Proofs.Ytmjdamcbdclgpaa
