/- ShardAdds: the walk, over what the program's four calls say. -/
import Derived.Test.YtbbcgcinpodhkaaFcount
namespace Go.Proofs.Ytbbcgcinpodhkaa
open Go.RowKit
set_option linter.unusedVariables false
set_option linter.unusedSimpArgs false
set_option maxRecDepth 100000

theorem sumC_six (c : List (List Int)) : ∃ x0 x1 x2 x3 x4 x5, (sumC c).1 = [x0, x1, x2, x3, x4, x5] := by
  have h : (sumC c).1.length = 6 := by
    unfold sumC
    split
    · exact sums_len c
    · rfl
  match hx : (sumC c).1, h with
  | [a, b, c, d, e, f], _ => exact ⟨a, b, c, d, e, f, rfl⟩
theorem sum_all {w w' : World} {e : Ending} {p : List Int × Int} {a b c d f g : Int} (h : Sum11 w p e w') (hp : p.1 = [a, b, c, d, f, g]) : e = .returned (.tuple #[.agg #[.int .u64 a, .int .u64 b, .int .u64 c, .int .u64 d, .int .u64 f, .int .u64 g], .int .i64 p.2]) ∧ Below w.heap.size w w' := by
  obtain ⟨rfl, hb⟩ := h
  rw [hp]
  exact ⟨rfl, hb⟩
theorem eq_self {x : Int} : (x == x) = true := by simp

set_option maxHeartbeats 8000000 in
theorem shardAdds_walk (K : Words11) (A : Option Addr) (c : Nat) (rs : List Rw) (t k : Int) (w : World) (h : GridIn .u64 w A c rs) (ht : (Lit.int .i64 t).wf = true) (hk : (Lit.int .i64 k).wf = true) :
    Calls Try.prog 3 #[.slice A rs.length c, .int .i64 t, .int .i64 k] w fun e w' => e = .returned (.bool true) ∧ Below w.heap.size w w' := by
  have HK := Lib.hid K
  have H0 := Lib.hid h
  have VT := Lib.hid (i64_of ht)
  have VK := Lib.hid (i64_of hk)
  have hq := rbig11_is .u64 A c rs w h
  obtain ⟨b, hb⟩ : ∃ b, bigC (valsOf rs) = b := ⟨_, rfl⟩
  rw [hb] at hq
  clear K h ht hk hb
  go_enter Try.func3, Try.ntmps3
  cases b with
  | true =>
    go_wp2_with fail
    refine hq.mono ?_
    rintro e w' ⟨rfl, rfl⟩
    clear hq
    go_wp2_with fail
    go_ret
    exact ⟨rfl, Below.refl _ _⟩
  | false =>
  go_wp2_with fail
  refine hq.mono ?_
  rintro e w' ⟨rfl, rfl⟩
  clear hq
  have hq := HK.out.addG A c rs t k w' H0.out VT.out VK.out
  go_wp2_with fail
  refine hq.mono ?_
  intro e W1 h1
  obtain ⟨A1, c1, r1, rfl, g1, v1, k1⟩ := grid_all h1
  have B1 := Lib.hid k1
  have H1 := Lib.hid (H0.out.below k1)
  have G1 := Lib.hid g1
  have V1 := Lib.hid v1
  clear hq h1 g1 v1 k1
  have hq := radd11_is A c rs t k W1 H1.out VT.out VK.out
  obtain ⟨er, her⟩ : ∃ er, (addC (valsOf rs) t k).2 = er := ⟨_, rfl⟩
  rw [her]
  go_wp2_with fail
  refine hq.mono ?_
  intro e W2 h1
  obtain ⟨A2, c2, r2, rfl, g2, v2, k1⟩ := grid_all h1
  rw [her]
  have B2 := Lib.hid (below_next B1.out k1)
  have H2 := Lib.hid (H1.out.below k1)
  have G1 := Lib.hid (G1.out.below k1)
  have G2 := Lib.hid g2
  have V2 := Lib.hid v2
  clear hq h1 g2 v2 k1 her
  obtain ⟨x0, x1, x2, x3, x4, x5, hx⟩ := sumC_six (valsOf rs)
  obtain ⟨es, hes⟩ : ∃ es, (sumC (valsOf rs)).2 = es := ⟨_, rfl⟩
  have HX := Lib.hid hx
  have HES := Lib.hid hes
  clear hx hes
  have hq := HK.out.sum A c rs W2 H2.out
  go_wp2_with fail
  refine hq.mono ?_
  intro e W3 h1
  obtain ⟨rfl, k1⟩ := sum_all h1 HX.out
  rw [HES.out]
  have B3 := Lib.hid (below_next B2.out k1)
  have H3 := Lib.hid (H2.out.below k1)
  have G1 := Lib.hid (G1.out.below k1)
  have G2 := Lib.hid (G2.out.below k1)
  clear hq h1 k1
  obtain ⟨X, hX⟩ : ∃ X, (.cells #[.int .u64 x0, .int .u64 x1, .int .u64 x2, .int .u64 x3, .int .u64 x4, .int .u64 x5] 28 (0, 0) : Obj) = X := ⟨_, rfl⟩
  obtain ⟨W4, hW4⟩ : ∃ W4, W3.alloc X = W4 := ⟨_, rfl⟩
  have k4 : Below W3.heap.size W3 W4 := by rw [← hW4]; exact boxed W3 X
  have B4 := Lib.hid (below_next B3.out k4)
  have H4 := Lib.hid (H3.out.below k4)
  have G1 := Lib.hid (G1.out.below k4)
  have G2 := Lib.hid (G2.out.below k4)
  have S4 : Hid (SixAt W4 W3.heap.size [x0, x1, x2, x3, x4, x5]) := Lib.hid (by rw [← hW4, ← hX]; exact heap_alloc_new _ _)
  have hq := rsum11_is A c rs W4 H4.out
  rw [← hX] at hW4
  have HW4 := Lib.hid hW4
  rw [← hW4] at hq
  clear k4 hX hW4
  go_wp2_with fail
  refine hq.mono ?_
  rw [HW4.out]
  intro e W5 h1
  obtain ⟨rfl, k1⟩ := sum_all h1 HX.out
  rw [HES.out]
  have B5 := Lib.hid (below_next B4.out k1)
  have H5 := Lib.hid (H4.out.below k1)
  have G1 := Lib.hid (G1.out.below k1)
  have G2 := Lib.hid (G2.out.below k1)
  have S5 := Lib.hid (S4.out.below k1 (block_lt S4.out))
  clear hq h1 k1 HW4 S4
  obtain ⟨X, hX⟩ : ∃ X, (.cells #[.int .u64 x0, .int .u64 x1, .int .u64 x2, .int .u64 x3, .int .u64 x4, .int .u64 x5] 28 (0, 0) : Obj) = X := ⟨_, rfl⟩
  obtain ⟨W6, hW6⟩ : ∃ W6, W5.alloc X = W6 := ⟨_, rfl⟩
  have k4 : Below W5.heap.size W5 W6 := by rw [← hW6]; exact boxed W5 X
  have B6 := Lib.hid (below_next B5.out k4)
  have H6 := Lib.hid (H5.out.below k4)
  have G1 := Lib.hid (G1.out.below k4)
  have G2 := Lib.hid (G2.out.below k4)
  have S6 := Lib.hid (S5.out.below k4 (block_lt S5.out))
  have T6 : Hid (SixAt W6 W5.heap.size [x0, x1, x2, x3, x4, x5]) := Lib.hid (by rw [← hW6, ← hX]; exact heap_alloc_new _ _)
  have hq := HK.out.newG t W6 VT.out
  rw [← hX] at hW6
  have HW6 := Lib.hid hW6
  rw [← hW6] at hq
  clear k4 hX hW6 S5
  obtain ⟨en, hen⟩ : ∃ en, (newC t).2 = en := ⟨_, rfl⟩
  have HEN := Lib.hid hen
  clear hen
  go_wp2_with fail
  refine hq.mono ?_
  rw [HW6.out]
  intro e W7 h1
  obtain ⟨A7, c7, r7, rfl, g7, v7, k1⟩ := grid_all h1
  rw [HEN.out]
  have B7 := Lib.hid (below_next B6.out k1)
  have H7 := Lib.hid (H6.out.below k1)
  have G1 := Lib.hid (G1.out.below k1)
  have G2 := Lib.hid (G2.out.below k1)
  have S7 := Lib.hid (S6.out.below k1 (block_lt S6.out))
  have T7 := Lib.hid (T6.out.below k1 (block_lt T6.out))
  have G7 := Lib.hid g7
  have V7 := Lib.hid v7
  clear hq h1 k1 g7 v7 S6 T6 HW6
  have hq := rnew11_is t W7
  go_wp2_with fail
  refine hq.mono ?_
  intro e W8 h1
  obtain ⟨A8, c8, r8, rfl, g8, v8, k1⟩ := grid_all h1
  rw [HEN.out]
  have B8 := Lib.hid (below_next B7.out k1)
  have H8 := Lib.hid (H7.out.below k1)
  have G1 := Lib.hid (G1.out.below k1)
  have G2 := Lib.hid (G2.out.below k1)
  have S8 := Lib.hid (S7.out.below k1 (block_lt S7.out))
  have T8 := Lib.hid (T7.out.below k1 (block_lt T7.out))
  have G7 := Lib.hid (G7.out.below k1)
  have G8 := Lib.hid g8
  have V8 := Lib.hid v8
  clear hq h1 k1 g8 v8 S7 T7
  have hq := counted_is HK.out W8
  go_wp2_with fail
  refine hq.mono ?_
  rintro e W9 ⟨rfl, k1⟩
  have B9 := Lib.hid (below_next B8.out k1)
  have H9 := Lib.hid (H8.out.below k1)
  have G1 := Lib.hid (G1.out.below k1)
  have G2 := Lib.hid (G2.out.below k1)
  have S9 := Lib.hid (S8.out.below k1 (block_lt S8.out))
  have T9 := Lib.hid (T8.out.below k1 (block_lt T8.out))
  have G7 := Lib.hid (G7.out.below k1)
  have G8 := Lib.hid (G8.out.below k1)
  clear hq k1 S8 T8
  have hq := rsame11_is A1 A2 c1 c2 r1 r2 W9 G1.out G2.out (V1.out.trans V2.out.symm)
  have t1 : (er == er) = true := eq_self
  have t2 : (es == es) = true := eq_self
  have t3 : (en == en) = true := eq_self
  go_wp2_with fail
  refine hq.mono ?_
  rintro e W10 ⟨rfl, k1⟩
  have B10 := Lib.hid (below_next B9.out k1)
  have H10 := Lib.hid (H9.out.below k1)
  have S10 := Lib.hid (S9.out.below k1 (block_lt S9.out))
  have T10 := Lib.hid (T9.out.below k1 (block_lt T9.out))
  have G7 := Lib.hid (G7.out.below k1)
  have G8 := Lib.hid (G8.out.below k1)
  clear hq k1 S9 T9
  have heq := fun W => six_same x0 x1 x2 x3 x4 x5 W
  obtain ⟨q0, q1, q2, q3, q4, q5⟩ := six_cells S10.out
  obtain ⟨s0, s1, s2, s3, s4, s5⟩ := six_cells T10.out
  have hq := rsame11_is A7 A8 c7 c8 r7 r8 W10 G7.out G8.out (V7.out.trans V8.out.symm)
  go_wp2_with fail
  refine hq.mono ?_
  rintro e W11 ⟨rfl, k1⟩
  have B11 := Lib.hid (below_next B10.out k1)
  have H11 := Lib.hid (H10.out.below k1)
  clear hq k1 q0 q1 q2 q3 q4 q5 s0 s1 s2 s3 s4 s5 heq
  have hq := HK.out.is A c rs W11 H11.out
  obtain ⟨bb, hbb⟩ : ∃ b, isC (valsOf rs) = b := ⟨_, rfl⟩
  rw [hbb] at hq
  have HBB := Lib.hid hbb
  clear hbb
  go_wp2_with fail
  refine hq.mono ?_
  rintro e W12 ⟨rfl, k1⟩
  have B12 := Lib.hid (below_next B11.out k1)
  have H12 := Lib.hid (H11.out.below k1)
  clear hq k1
  have hq := ris11_is .u64 A c rs W12 H12.out
  rw [HBB.out] at hq
  have t4 : (bb == bb) = true := by simp
  go_wp2_with fail
  refine hq.mono ?_
  rintro e W13 ⟨rfl, rfl⟩
  clear hq
  go_wp2_with fail
  go_ret
  exact ⟨rfl, B12.out⟩
end Go.Proofs.Ytbbcgcinpodhkaa
