/- The law's own counts of layer 11: the walk of counted, over what the program's four calls say. -/
import Derived.Test.YtbbcgcinpodhkaaFsum
import Derived.Test.YtbbcgcinpodhkaaSix
namespace Go.Proofs.Ytbbcgcinpodhkaa
open Go.RowKit
set_option linter.unusedVariables false
set_option linter.unusedSimpArgs false
set_option maxRecDepth 100000

def k2 : List (List Int) := [[0, 0, 0, 0, 0, 0], [0, 0, 0, 0, 0, 0]]
def k2a : List (List Int) := [[0, 0, 0, 0, 0, 0], [0, 1, 0, 0, 0, 0]]
def k2b : List (List Int) := [[0, 1, 0, 0, 0, 0], [0, 1, 0, 0, 0, 0]]
theorem c_1 : newC 2 = (k2, 0) := by kernel_rfl
theorem c_2 : addC k2 1 1 = (k2a, 0) := by kernel_rfl
theorem c_3 : addC k2a 0 1 = (k2b, 0) := by kernel_rfl
theorem c_4 : sumC k2b = ([0, 2, 0, 0, 0, 0], 0) := by kernel_rfl
theorem c_5 : addC k2 2 0 = ([], 1) := by kernel_rfl
theorem c_6 : newC 9 = ([], 1) := by kernel_rfl
theorem c_7 : sumC [[1]] = (zero6, 1) := by kernel_rfl
theorem c_8 : isC k2 = true := by kernel_rfl
theorem c_9 : isC [] = false := by kernel_rfl
theorem sum_lit {w w' : World} {e : Ending} {a b c d f g er : Int} (h : Sum11 w ([a, b, c, d, f, g], er) e w') : e = .returned (.tuple #[.agg #[.int .u64 a, .int .u64 b, .int .u64 c, .int .u64 d, .int .u64 f, .int .u64 g], .int .i64 er]) ∧ Below w.heap.size w w' := h
theorem grid_len {q : IntKind} {w : World} {A : Option Addr} {c : Nat} {rs : List Rw} {v : List (List Int)} (h : valsOf rs = v) : rs.length = v.length := by rw [← h, vals_len]

theorem grid_blocks {W : World} {n : Nat} {t : TypeId} {rs : List Rw} (h : W.heap[n]? = some (.cells (rs.map Rw.cell).toArray t (0, 0))) (hl : rs.length ≤ 1000)
    (he : ∀ r ∈ rs, ∃ b t', r.a = some ⟨b, 0, none⟩ ∧ W.heap[b]? = some (.cells (r.l.map (Value.int .u64)).toArray t' (0, 0)) ∧ r.l.length ≤ r.c ∧ r.c ≤ 1000 ∧ ∀ x ∈ r.l, U64 x) : GridIn .u64 W (some ⟨n, 0, none⟩) rs.length rs :=
  ⟨reads_block h, Nat.le_refl _, by unfold maxLen; omega, fun r hr => by
    obtain ⟨b, t', ha, hb, h1, h2, h3⟩ := he r hr
    exact ⟨by rw [ha]; exact reads_block hb, h1, by unfold maxLen; omega, fun x hx => u64_wf.2 (h3 x hx)⟩⟩

theorem three_allocs (w : World) (a b c : Obj) : (((w.alloc a).alloc b).alloc c).heap[w.heap.size]? = some a ∧ (((w.alloc a).alloc b).alloc c).heap[w.heap.size + 1]? = some b ∧ (((w.alloc a).alloc b).alloc c).heap[w.heap.size + 1 + 1]? = some c := by
  obtain ⟨h1, h2⟩ := two_allocs w a b
  refine ⟨kept_alloc h2, kept_alloc h1, ?_⟩
  have h := heap_alloc_new ((w.alloc a).alloc b) c
  rwa [World.size_alloc, World.size_alloc] at h

set_option maxHeartbeats 8000000 in
theorem counted_is (K : Words11) (w : World) : Calls Try.prog 14 #[] w (Says w true) := by
  have HK := Lib.hid K
  clear K
  have hq := HK.out.newG 2 w (by simp [I64])
  rw [c_1] at hq
  go_enter Try.func14, Try.ntmps14
  go_wp2_with fail
  refine hq.mono ?_
  intro e W1 h1
  obtain ⟨A1, c1, r1, rfl, g1, v1, k1⟩ := grid_all h1
  have B1 := Lib.hid k1
  have G1 := Lib.hid g1
  have V1 := Lib.hid v1
  clear hq h1 g1 v1 k1
  have hq := HK.out.addG A1 c1 r1 1 1 W1 G1.out (by simp [I64]) (by simp [I64])
  rw [V1.out, c_2] at hq
  go_wp2_with fail
  refine hq.mono ?_
  intro e W2 h1
  obtain ⟨A2, c2, r2, rfl, g1, v1, k1⟩ := grid_all h1
  have B2 := Lib.hid (below_next B1.out k1)
  have G1 := Lib.hid (G1.out.below k1)
  have G2 := Lib.hid g1
  have V2 := Lib.hid v1
  clear hq h1 g1 v1 k1
  have hq := HK.out.addG A2 c2 r2 0 1 W2 G2.out (by simp [I64]) (by simp [I64])
  rw [V2.out, c_3] at hq
  go_wp2_with fail
  refine hq.mono ?_
  intro e W3 h1
  obtain ⟨A3, c3, r3, rfl, g1, v1, k1⟩ := grid_all h1
  have B3 := Lib.hid (below_next B2.out k1)
  have G1 := Lib.hid (G1.out.below k1)
  have G2 := Lib.hid (G2.out.below k1)
  have G3 := Lib.hid g1
  have V3 := Lib.hid v1
  clear hq h1 g1 v1 k1
  have hq := HK.out.sum A3 c3 r3 W3 G3.out
  rw [V3.out, c_4] at hq
  go_wp2_with fail
  refine hq.mono ?_
  intro e W4 h1
  obtain ⟨rfl, k1⟩ := sum_lit h1
  have B4 := Lib.hid (below_next B3.out k1)
  have G1 := Lib.hid (G1.out.below k1)
  have G2 := Lib.hid (G2.out.below k1)
  clear hq h1 k1
  obtain ⟨X, hX⟩ : ∃ X, (.cells #[.int .u64 0, .int .u64 2, .int .u64 0, .int .u64 0, .int .u64 0, .int .u64 0] 28 (0, 0) : Obj) = X := ⟨_, rfl⟩
  have k5 := boxed W4 X
  have G1 := Lib.hid (G1.out.below k5)
  have hq := HK.out.addG A1 c1 r1 2 0 (W4.alloc X) G1.out (by simp [I64]) (by simp [I64])
  rw [V1.out, c_5] at hq
  have HX := Lib.hid hX
  rw [← hX] at hq
  clear hX
  have B5 := Lib.hid (below_next B4.out k5)
  have G2 := Lib.hid (G2.out.below k5)
  have S5 : Hid (SixAt (W4.alloc X) W4.heap.size [0, 2, 0, 0, 0, 0]) := Lib.hid (by rw [← HX.out]; exact heap_alloc_new _ _)
  clear k5
  rw [HX.out] at hq
  obtain ⟨W5, hW5⟩ : ∃ W5, W4.alloc X = W5 := ⟨_, rfl⟩
  have HW5 := Lib.hid hW5
  rw [hW5] at G1 G2 B5 S5
  clear hW5
  rw [← HX.out] at hq HW5
  clear HX
  go_wp2_with fail
  refine hq.mono ?_
  rw [HW5.out]
  intro e W6 h1
  obtain ⟨A6, c6, r6, rfl, _, v6, k1⟩ := grid_all h1
  have l6 : r6.length = 0 := by rw [← vals_len, v6]; rfl
  rw [l6]
  have B6 := Lib.hid (below_next B5.out k1)
  have G1 := Lib.hid (G1.out.below k1)
  have G2 := Lib.hid (G2.out.below k1)
  have S6 := Lib.hid (S5.out.below k1 (block_lt S5.out))
  clear hq h1 k1 l6 v6 S5
  have hq := HK.out.newG 9 W6 (by simp [I64])
  rw [c_6] at hq
  go_wp2_with fail
  refine hq.mono ?_
  intro e W7 h1
  obtain ⟨A7, c7, r7, rfl, _, v7, k1⟩ := grid_all h1
  have l7 : r7.length = 0 := by rw [← vals_len, v7]; rfl
  rw [l7]
  have B7 := Lib.hid (below_next B6.out k1)
  have G1 := Lib.hid (G1.out.below k1)
  have G2 := Lib.hid (G2.out.below k1)
  have S7 := Lib.hid (S6.out.below k1 (block_lt S6.out))
  clear hq h1 k1 l7 v7 S6
  -- the counts that are none
  obtain ⟨X, hX⟩ : ∃ X, (.cells #[.int .u64 1] 27 (0, 0) : Obj) = X := ⟨_, rfl⟩
  obtain ⟨Y, hY⟩ : ∃ Y, (.cells #[.slice (some ⟨W7.heap.size, 0, none⟩) 1 1] 39 (0, 0) : Obj) = Y := ⟨_, rfl⟩
  obtain ⟨W8, hW8⟩ : ∃ W8, (W7.alloc X).alloc Y = W8 := ⟨_, rfl⟩
  have k8 : Below W7.heap.size W7 W8 := by rw [← hW8]; exact (boxed W7 X).trans ((boxed _ Y).mono (by simp))
  have g8 : GridIn .u64 W8 (some ⟨W7.heap.size + 1, 0, none⟩) 1 [⟨some ⟨W7.heap.size, 0, none⟩, 1, [1]⟩] := by
    obtain ⟨t1, t2⟩ := two_allocs W7 X Y
    rw [hW8, ← hY] at t1
    rw [hW8, ← hX] at t2
    exact grid_blocks (t := 39) (rs := [⟨some ⟨W7.heap.size, 0, none⟩, 1, [1]⟩]) t1 (by simp) (fun r hr => by
      rw [List.mem_singleton] at hr
      subst hr
      exact ⟨_, _, rfl, t2, Nat.le_refl _, by simp, by simp [U64]⟩)
  have hq := HK.out.sum _ _ _ W8 g8
  rw [show valsOf [(⟨some ⟨W7.heap.size, 0, none⟩, 1, [1]⟩ : Rw)] = [[1]] from rfl, c_7, ← hW8, ← hX, ← hY] at hq
  have HW8 := Lib.hid hW8
  have B8 := Lib.hid (below_next B7.out k8)
  have G1 := Lib.hid (G1.out.below k8)
  have G2 := Lib.hid (G2.out.below k8)
  have S8 := Lib.hid (S7.out.below k8 (block_lt S7.out))
  rw [← hX, ← hY] at HW8
  clear hX hY hW8 k8 g8 S7
  go_wp2_with fail
  refine hq.mono ?_
  rw [HW8.out]
  intro e W9 h1
  obtain ⟨rfl, k1⟩ := sum_lit (a := 0) (b := 0) (c := 0) (d := 0) (f := 0) (g := 0) h1
  have B9 := Lib.hid (below_next B8.out k1)
  have G1 := Lib.hid (G1.out.below k1)
  have G2 := Lib.hid (G2.out.below k1)
  have S9 := Lib.hid (S8.out.below k1 (block_lt S8.out))
  clear hq h1 k1 S8 HW8
  -- the last box, then the three literals
  obtain ⟨X, hX⟩ : ∃ X, (.cells #[.int .u64 0, .int .u64 0, .int .u64 0, .int .u64 0, .int .u64 0, .int .u64 0] 28 (0, 0) : Obj) = X := ⟨_, rfl⟩
  obtain ⟨W10, hW10⟩ : ∃ W10, W9.alloc X = W10 := ⟨_, rfl⟩
  have s10 : W10.heap.size = W9.heap.size + 1 := by rw [← hW10]; simp
  have k10 : Below W9.heap.size W9 W10 := by rw [← hW10]; exact boxed W9 X
  have S10 := S9.out.below k10 (block_lt S9.out)
  obtain ⟨q0, q1, q2, q3, q4, q5⟩ := six_cells S10
  have HW10 := Lib.hid hW10
  rw [← hX] at HW10
  have B10 := Lib.hid (below_next B9.out k10)
  have G1 := Lib.hid (G1.out.below k10)
  have G2 := Lib.hid (G2.out.below k10)
  have HS10 := Lib.hid s10
  rw [← hW10, ← hX] at q0 q1 q2 q3 q4 q5
  clear hX hW10 k10 S10 s10 S9
  have heq := fun W => six_same 0 2 0 0 0 0 W
  obtain ⟨X1, hX1⟩ : ∃ X, (.cells #[.int .u64 0, .int .u64 0, .int .u64 0, .int .u64 0, .int .u64 0, .int .u64 0] 27 (0, 0) : Obj) = X := ⟨_, rfl⟩
  obtain ⟨X2, hX2⟩ : ∃ X, (.cells #[.int .u64 0, .int .u64 1, .int .u64 0, .int .u64 0, .int .u64 0, .int .u64 0] 27 (0, 0) : Obj) = X := ⟨_, rfl⟩
  obtain ⟨X3, hX3⟩ : ∃ X, (.cells #[.slice (some ⟨W10.heap.size, 0, none⟩) 6 6, .slice (some ⟨W10.heap.size + 1, 0, none⟩) 6 6] 39 (0, 0) : Obj) = X := ⟨_, rfl⟩
  obtain ⟨W11, hW11⟩ : ∃ W11, ((W10.alloc X1).alloc X2).alloc X3 = W11 := ⟨_, rfl⟩
  have k11 : Below W10.heap.size W10 W11 := by rw [← hW11]; exact ((boxed W10 X1).trans ((boxed _ X2).mono (by simp))).trans ((boxed _ X3).mono (by simp; omega))
  have g11 : GridIn .u64 W11 (some ⟨W10.heap.size + 1 + 1, 0, none⟩) 2 [⟨some ⟨W10.heap.size, 0, none⟩, 6, [0, 0, 0, 0, 0, 0]⟩, ⟨some ⟨W10.heap.size + 1, 0, none⟩, 6, [0, 1, 0, 0, 0, 0]⟩] := by
    obtain ⟨t1, t2, t3⟩ := three_allocs W10 X1 X2 X3
    rw [hW11, ← hX1] at t1
    rw [hW11, ← hX2] at t2
    rw [hW11, ← hX3] at t3
    exact grid_blocks (t := 39) (rs := [⟨some ⟨W10.heap.size, 0, none⟩, 6, [0, 0, 0, 0, 0, 0]⟩, ⟨some ⟨W10.heap.size + 1, 0, none⟩, 6, [0, 1, 0, 0, 0, 0]⟩]) t3 (by simp) (fun r hr => by
      simp only [List.mem_cons, List.not_mem_nil, or_false] at hr
      rcases hr with rfl | rfl
      · exact ⟨_, _, rfl, t1, Nat.le_refl _, by simp, by simp [U64]⟩
      · exact ⟨_, _, rfl, t2, Nat.le_refl _, by simp, by simp [U64]⟩)
  have hq := rsame11_is A2 (some ⟨W10.heap.size + 1 + 1, 0, none⟩) c2 2 r2 _ W11 (G2.out.below k11) g11 (by rw [V2.out]; rfl)
  have HW11 := Lib.hid hW11
  have B11 := Lib.hid (below_next B10.out k11)
  have G1 := Lib.hid (G1.out.below k11)
  rw [← hX1, ← hX2, ← hX3, HS10.out, ← HW10.out] at HW11
  rw [← HW11.out, HS10.out] at hq
  clear hX1 hX2 hX3 hW11 k11 g11
  go_wp2_with fail
  refine hq.mono ?_
  rw [HW11.out]
  rintro e W12 ⟨rfl, k1⟩
  have B12 := Lib.hid (below_next B11.out k1)
  have G1 := Lib.hid (G1.out.below k1)
  clear hq k1 q0 q1 q2 q3 q4 q5 heq
  have hq := HK.out.is A1 c1 r1 W12 G1.out
  rw [V1.out, c_8] at hq
  go_wp2_with fail
  refine hq.mono ?_
  rintro e W13 ⟨rfl, k1⟩
  have B13 := Lib.hid (below_next B12.out k1)
  clear hq k1
  have hq := HK.out.is none 0 [] W13 GridIn.nil
  rw [show valsOf [] = [] from rfl, c_9] at hq
  go_wp2_with fail
  refine hq.mono ?_
  rintro e W14 ⟨rfl, k1⟩
  have B14 := Lib.hid (below_next B13.out k1)
  clear hq k1
  go_wp2_with fail
  go_ret
  exact ⟨rfl, B14.out⟩
end Go.Proofs.Ytbbcgcinpodhkaa
