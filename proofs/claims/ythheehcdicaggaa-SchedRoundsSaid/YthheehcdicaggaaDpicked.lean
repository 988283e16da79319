/- The law's own orders of layer 9: the walk of picked, over what the program's four calls say. -/
import Derived.Test.YthheehcdicaggaaDwords
import Derived.Test.YthheehcdicaggaaFlat
namespace Go.Proofs.Ythheehcdicaggaa
open Go.RowKit
set_option linter.unusedVariables false
set_option linter.unusedSimpArgs false
set_option maxRecDepth 100000

theorem nums_block {W : World} {n : Nat} {l : List Int} {t : TypeId} (h : W.heap[n]? = some (.cells (l.map (Value.int .i64)).toArray t (0, 0))) (hl : l.length ≤ 1000) (hv : ∀ x ∈ l, I64 x) : NumsIn W (some ⟨n, 0, none⟩) l.length l :=
  ⟨reads_block h, Nat.le_refl _, by unfold maxLen; omega, hv⟩
theorem nums_nil (w : World) : NumsIn w none 0 [] := ⟨fun hn => absurd hn (by simp), Nat.le_refl _, by simp [maxLen], fun x hx => by cases hx⟩
theorem p_1 : pickI 5 [4, 7, 9] = (9, 0) := by kernel_rfl
theorem p_2 : pickI 5 [] = (0, 5) := by kernel_rfl
theorem p_3 : pickI (-1) [1] = (0, 1) := by kernel_rfl
theorem p_4 : roundI 3 5 = ([0, 1, 2, 0, 1], 0) := by kernel_rfl
theorem p_5 : roundI 9 1 = ([], 1) := by kernel_rfl
theorem p_6 : fairI [0, 1, 2, 0, 1] 3 3 = true := by kernel_rfl
theorem p_7 : fairI [0, 1, 2, 0, 1] 3 2 = false := by kernel_rfl
theorem p_8 : mostI [0, 0, 1, 0] 2 = 3 := by kernel_rfl
theorem p_9 : mostI [] 2 = 1 := by kernel_rfl
theorem p_10 : mostI [] 0 = 0 := by kernel_rfl

set_option maxHeartbeats 8000000 in
theorem picked_is (K : Words9) (w : World) : Calls Try.prog 12 #[] w (Says w true) := by
  have HK := Lib.hid K
  clear K
  have k1 := boxed w (.cells #[.int .i64 4, .int .i64 7, .int .i64 9] 3)
  have hq := HK.out.pick 5 (some ⟨w.heap.size, 0, none⟩) 3 [4, 7, 9] (w.alloc (.cells #[.int .i64 4, .int .i64 7, .int .i64 9] 3)) (nums_block (l := [4, 7, 9]) (one_alloc w _) (by simp) (by simp [I64])) (by simp) (by simp [I64])
  rw [p_1] at hq
  go_enter Try.func12, Try.ntmps12
  go_wp2_with fail
  refine hq.mono ?_
  rintro e W1 ⟨rfl, kk⟩
  have B1 := Lib.hid (below_next k1 kk)
  clear hq kk k1
  have hq := HK.out.pick 5 none 0 [] W1 (nums_nil _) (by simp) (by simp [I64])
  rw [p_2] at hq
  go_wp2_with fail
  refine hq.mono ?_
  rintro e W2 ⟨rfl, kk⟩
  have B2 := Lib.hid (below_next B1.out kk)
  clear hq kk
  have k3 := boxed W2 (.cells #[.int .i64 1] 3)
  have hq := HK.out.pick (-1) (some ⟨W2.heap.size, 0, none⟩) 1 [1] (W2.alloc (.cells #[.int .i64 1] 3)) (nums_block (l := [1]) (one_alloc W2 _) (by simp) (by simp [I64])) (by simp) (by simp [I64])
  rw [p_3] at hq
  go_wp2_with fail
  refine hq.mono ?_
  rintro e W3 ⟨rfl, kk⟩
  have B3 := Lib.hid (below_next (below_next B2.out k3) kk)
  clear hq kk k3
  have hq := HK.out.round 3 5 W3 (by simp [I64]) (by simp [I64])
  rw [p_4] at hq
  go_wp2_with fail
  refine hq.mono ?_
  rintro e W4 ⟨A4, c4, rfl, r4, l4, m4, kk⟩
  have B4 := Lib.hid (below_next B3.out kk)
  have N4 : Hid (NumsIn W4 A4 c4 [0, 1, 2, 0, 1]) := Lib.hid ⟨r4, l4, m4, by simp [I64]⟩
  clear hq kk r4 l4 m4
  have hq := HK.out.round 9 1 W4 (by simp [I64]) (by simp [I64])
  rw [p_5] at hq
  go_wp2_with fail
  refine hq.mono ?_
  rintro e W5 ⟨A5, c5, rfl, _, _, _, kk⟩
  have B5 := Lib.hid (below_next B4.out kk)
  have N5 := Lib.hid (N4.out.below kk)
  clear hq kk
  -- one region from here on
  have k6 := boxed W5 (.cells #[.int .i64 0, .int .i64 1, .int .i64 2, .int .i64 0, .int .i64 1] 3)
  have n6 := nums_block (l := [0, 1, 2, 0, 1]) (one_alloc W5 (.cells #[.int .i64 0, .int .i64 1, .int .i64 2, .int .i64 0, .int .i64 1] 3)) (by simp) (by simp [I64])
  have hq := sameI_yes A4 (some ⟨W5.heap.size, 0, none⟩) c4 5 _ _ [0, 1, 2, 0, 1] (W5.alloc (.cells #[.int .i64 0, .int .i64 1, .int .i64 2, .int .i64 0, .int .i64 1] 3)) (by simp [maxLen]) (Lib.hid (N5.out.below k6).r) (Lib.hid n6.r)
  go_wp2_with fail
  refine hq.mono ?_
  rintro e W6 ⟨rfl, kk⟩
  have B6 := Lib.hid (below_next (below_next B5.out k6) kk)
  have N6 := Lib.hid ((N5.out.below k6).below kk)
  clear hq kk k6 n6
  have hq := HK.out.fair A4 c4 [0, 1, 2, 0, 1] 3 3 W6 N6.out (by simp) (by simp [I64]) (by simp) (by simp [I64])
  rw [p_6] at hq
  go_wp2_with fail
  refine hq.mono ?_
  rintro e W7 ⟨rfl, kk⟩
  have B7 := Lib.hid (below_next B6.out kk)
  have N7 := Lib.hid (N6.out.below kk)
  clear hq kk
  have hq := HK.out.fair A4 c4 [0, 1, 2, 0, 1] 3 2 W7 N7.out (by simp) (by simp [I64]) (by simp) (by simp [I64])
  rw [p_7] at hq
  go_wp2_with fail
  refine hq.mono ?_
  rintro e W8 ⟨rfl, kk⟩
  have B8 := Lib.hid (below_next B7.out kk)
  clear hq kk
  have k9 := boxed W8 (.cells #[.int .i64 0, .int .i64 0, .int .i64 1, .int .i64 0] 3)
  have hq := HK.out.most (some ⟨W8.heap.size, 0, none⟩) 4 [0, 0, 1, 0] 2 (W8.alloc (.cells #[.int .i64 0, .int .i64 0, .int .i64 1, .int .i64 0] 3)) (nums_block (l := [0, 0, 1, 0]) (one_alloc W8 _) (by simp) (by simp [I64])) (by simp) (by simp [I64]) (by simp)
  rw [p_8] at hq
  go_wp2_with fail
  refine hq.mono ?_
  rintro e W9 ⟨rfl, kk⟩
  have B9 := Lib.hid (below_next (below_next B8.out k9) kk)
  clear hq kk k9
  have hq := HK.out.most none 0 [] 2 W9 (nums_nil _) (by simp) (by simp [I64]) (by simp)
  rw [p_9] at hq
  go_wp2_with fail
  refine hq.mono ?_
  rintro e W10 ⟨rfl, kk⟩
  have B10 := Lib.hid (below_next B9.out kk)
  clear hq kk
  have hq := HK.out.most none 0 [] 0 W10 (nums_nil _) (by simp) (by simp [I64]) (by simp)
  rw [p_10] at hq
  go_wp2_with fail
  refine hq.mono ?_
  rintro e W11 ⟨rfl, kk⟩
  have B11 := Lib.hid (below_next B10.out kk)
  clear hq kk
  go_wp2_with fail
  go_ret
  exact ⟨rfl, B11.out⟩
end Go.Proofs.Ythheehcdicaggaa
