/- ShardOne, ShardOrder: the walks, over what the program's four calls say. -/
import Derived.Test.YtbbcgcinpodhkaaFlaw1
namespace Go.Proofs.Ytbbcgcinpodhkaa
open Go.RowKit
set_option linter.unusedVariables false
set_option linter.unusedSimpArgs false
set_option maxRecDepth 100000

theorem add_err (c : List (List Int)) (t k : Int) : (addC c t k).2 = 0 ∨ (addC c t k).2 = 1 := by
  unfold addC
  split
  · exact .inl rfl
  · exact .inr rfl

set_option maxHeartbeats 8000000 in
theorem shardOrder_walk (K : Words11) (A : Option Addr) (c : Nat) (rs : List Rw) (t k u n : Int) (w : World) (h : GridIn .u64 w A c rs) (ht : (Lit.int .i64 t).wf = true) (hk : (Lit.int .i64 k).wf = true) (hu : (Lit.int .i64 u).wf = true) (hn : (Lit.int .i64 n).wf = true) :
    Calls Try.prog 5 #[.slice A rs.length c, .int .i64 t, .int .i64 k, .int .i64 u, .int .i64 n] w fun e w' => e = .returned (.bool true) ∧ Below w.heap.size w w' := by
  have HK := Lib.hid K
  have VT := Lib.hid (i64_of ht)
  have VK := Lib.hid (i64_of hk)
  have VU := Lib.hid (i64_of hu)
  have VN := Lib.hid (i64_of hn)
  have hq := HK.out.addG A c rs t k w h VT.out VK.out
  obtain ⟨e1, he1⟩ : ∃ e, (addC (valsOf rs) t k).2 = e := ⟨_, rfl⟩
  obtain ⟨e2, he2⟩ : ∃ e, (addC (valsOf rs) u n).2 = e := ⟨_, rfl⟩
  have HE1 := Lib.hid he1
  have HE2 := Lib.hid he2
  have H0 := Lib.hid h
  clear K h ht hk hu hn he1 he2
  go_enter Try.func5, Try.ntmps5
  go_wp2_with fail
  refine hq.mono ?_
  intro e W1 h1
  obtain ⟨A1, c1, r1, rfl, g1, v1, k1⟩ := grid_all h1
  rw [HE1.out]
  have B1 := Lib.hid k1
  have H1 := Lib.hid (H0.out.below k1)
  have G1 := Lib.hid g1
  have V1 := Lib.hid v1
  clear hq h1 g1 v1 k1
  have hq := HK.out.addG A c rs u n W1 H1.out VU.out VN.out
  go_wp2_with fail
  refine hq.mono ?_
  intro e W2 h1
  obtain ⟨A2, c2, r2, rfl, g2, v2, k1⟩ := grid_all h1
  rw [HE2.out]
  have B2 := Lib.hid (below_next B1.out k1)
  have H2 := Lib.hid (H1.out.below k1)
  have G1 := Lib.hid (G1.out.below k1)
  have G2 := Lib.hid g2
  have V2 := Lib.hid v2
  clear hq h1 g2 v2 k1
  have hq := rbig11_is .u64 A c rs W2 H2.out
  obtain ⟨b, hb⟩ : ∃ b, bigC (valsOf rs) = b := ⟨_, rfl⟩
  rw [hb] at hq
  clear hb
  go_wp2_with fail
  refine hq.mono ?_
  rintro e w' ⟨rfl, rfl⟩
  clear hq
  by_cases hbad : b = true ∨ e1 ≠ 0 ∨ e2 ≠ 0
  · have three : b = true ∨ (b = false ∧ (e1 != 0) = true) ∨ (b = false ∧ (e1 != 0) = false ∧ (e2 != 0) = true) := by
      rcases b with _ | _
      · by_cases h1 : e1 = 0
        · refine .inr (.inr ⟨rfl, by rw [h1]; rfl, ?_⟩)
          rcases hbad with hb | hb | hb
          · cases hb
          · exact absurd h1 hb
          · simpa using hb
        · exact .inr (.inl ⟨rfl, by simpa using h1⟩)
      · exact .inl rfl
    clear hbad
    have hq := counted_is HK.out w'
    rcases three with rfl | ⟨rfl, d1⟩ | ⟨rfl, d1, d2⟩
    all_goals
      go_wp2_with fail
      refine hq.mono ?_
      rintro e W3 ⟨rfl, k1⟩
      have B3 := Lib.hid (below_next B2.out k1)
      clear hq k1
      go_wp2_with fail
      go_ret
      exact ⟨rfl, B3.out⟩
  · obtain rfl : b = false := by
      rcases b with _ | _
      · rfl
      · exact absurd (.inl rfl) hbad
    obtain rfl : e1 = 0 := Classical.byContradiction fun h => hbad (.inr (.inl h))
    obtain rfl : e2 = 0 := Classical.byContradiction fun h => hbad (.inr (.inr h))
    have HSW := Lib.hid (add_swap HE1.out HE2.out)
    clear hbad
    have hq := HK.out.addG A1 c1 r1 u n w' G1.out VU.out VN.out
    rw [V1.out] at hq
    go_wp2_with fail
    refine hq.mono ?_
    intro e W3 h1
    obtain ⟨A3, c3, r3, rfl, g3, v3, k1⟩ := grid_all h1
    rw [HSW.out.1]
    have B3 := Lib.hid (below_next B2.out k1)
    have G2 := Lib.hid (G2.out.below k1)
    have G3 := Lib.hid g3
    have V3 := Lib.hid v3
    clear hq h1 g3 v3 k1
    have hq := HK.out.addG A2 c2 r2 t k W3 G2.out VT.out VK.out
    rw [V2.out] at hq
    go_wp2_with fail
    refine hq.mono ?_
    intro e W4 h1
    obtain ⟨A4, c4, r4, rfl, g4, v4, k1⟩ := grid_all h1
    rw [HSW.out.2.1]
    have B4 := Lib.hid (below_next B3.out k1)
    have G3 := Lib.hid (G3.out.below k1)
    have G4 := Lib.hid g4
    have V4 := Lib.hid v4
    clear hq h1 g4 v4 k1
    have hq := counted_is HK.out W4
    go_wp2_with fail
    refine hq.mono ?_
    rintro e W5 ⟨rfl, k1⟩
    have B5 := Lib.hid (below_next B4.out k1)
    have G3 := Lib.hid (G3.out.below k1)
    have G4 := Lib.hid (G4.out.below k1)
    clear hq k1
    have hq := rsame11_is A3 A4 c3 c4 r3 r4 W5 G3.out G4.out (V3.out.trans (HSW.out.2.2.trans V4.out.symm))
    go_wp2_with fail
    refine hq.mono ?_
    rintro e W6 ⟨rfl, k1⟩
    have B6 := Lib.hid (below_next B5.out k1)
    clear hq k1
    go_wp2_with fail
    go_ret
    exact ⟨rfl, B6.out⟩

theorem set_six {l : List Int} {x0 x1 x2 x3 x4 x5 : Int} {k : Nat} (hl : l = [x0, x1, x2, x3, x4, x5]) (y : Int) : ∃ y0 y1 y2 y3 y4 y5, l.set k y = [y0, y1, y2, y3, y4, y5] := by
  have h : (l.set k y).length = 6 := by rw [List.length_set, hl]; rfl
  match hx : l.set k y, h with
  | [a, b, c, d, e, f], _ => exact ⟨a, b, c, d, e, f, rfl⟩

set_option maxHeartbeats 8000000 in
theorem shardOne_walk (K : Words11) (A : Option Addr) (c : Nat) (rs : List Rw) (t k : Int) (w : World) (h : GridIn .u64 w A c rs) (ht : (Lit.int .i64 t).wf = true) (hk : (Lit.int .i64 k).wf = true) :
    Calls Try.prog 4 #[.slice A rs.length c, .int .i64 t, .int .i64 k] w fun e w' => e = .returned (.bool true) ∧ Below w.heap.size w w' := by
  have HK := Lib.hid K
  have VT := Lib.hid (i64_of ht)
  have VK := Lib.hid (i64_of hk)
  have hq := HK.out.addG A c rs t k w h VT.out VK.out
  obtain ⟨e1, he1⟩ : ∃ e, (addC (valsOf rs) t k).2 = e := ⟨_, rfl⟩
  have HE1 := Lib.hid he1
  have H0 := Lib.hid h
  clear K h ht hk he1
  go_enter Try.func4, Try.ntmps4
  go_wp2_with fail
  refine hq.mono ?_
  intro e W1 h1
  obtain ⟨A1, c1, r1, rfl, g1, v1, k1⟩ := grid_all h1
  rw [HE1.out]
  have B1 := Lib.hid k1
  have H1 := Lib.hid (H0.out.below k1)
  have G1 := Lib.hid g1
  have V1 := Lib.hid v1
  clear hq h1 g1 v1 k1
  have hq := rbig11_is .u64 A c rs W1 H1.out
  obtain ⟨b, hb⟩ : ∃ b, bigC (valsOf rs) = b := ⟨_, rfl⟩
  rw [hb] at hq
  clear hb
  go_wp2_with fail
  refine hq.mono ?_
  rintro e w' ⟨rfl, rfl⟩
  clear hq
  by_cases hbad : b = true ∨ e1 ≠ 0
  · have two : b = true ∨ (b = false ∧ (e1 != 0) = true) := by
      rcases b with _ | _
      · refine .inr ⟨rfl, ?_⟩
        rcases hbad with hb | hb
        · cases hb
        · simpa using hb
      · exact .inl rfl
    clear hbad
    have hq := counted_is HK.out w'
    rcases two with rfl | ⟨rfl, d1⟩
    all_goals
      go_wp2_with fail
      refine hq.mono ?_
      rintro e W3 ⟨rfl, k1⟩
      have B3 := Lib.hid (below_next B1.out k1)
      clear hq k1
      go_wp2_with fail
      go_ret
      exact ⟨rfl, B3.out⟩
  · obtain rfl : b = false := by
      rcases b with _ | _
      · rfl
      · exact absurd (.inl rfl) hbad
    obtain rfl : e1 = 0 := Classical.byContradiction fun h => hbad (.inr h)
    obtain ⟨⟨o1, o2, o3, o4, o5⟩, hadd⟩ := add_ok HE1.out
    have hv := V1.out
    rw [hadd] at hv
    have hv : valsOf r1 = addV (valsOf rs) t.toNat k.toNat := hv
    have hlen : r1.length = rs.length := by rw [← vals_len, hv, addV_len, vals_len]
    obtain ⟨k, rfl⟩ : ∃ n : Nat, k = (n : Int) := ⟨k.toNat, by omega⟩
    rw [Int.toNat_natCast] at hv
    have hk6 : k < 6 := by omega
    have HIS : Hid (isC (valsOf r1) = true) := Lib.hid (by rw [hv]; exact isC_add o1)
    have HS1 : Hid (sumC (valsOf rs) = (sums (valsOf rs), 0)) := Lib.hid (by unfold sumC; rw [if_pos o1])
    have HS2 : Hid (sumC (valsOf r1) = ((sums (valsOf rs)).set k ((sumK (valsOf rs) k + 1) % 18446744073709551616), 0)) := Lib.hid (by
      unfold sumC
      rw [if_pos HIS.out, hv, sums_add (by omega) hk6 (isC_iff.1 o1).1])
    have HAT := Lib.hid (sums_at (valsOf rs) hk6)
    obtain ⟨x0, x1, x2, x3, x4, x5, hx⟩ : ∃ a b c d e f, sums (valsOf rs) = [a, b, c, d, e, f] := by
      have := sums_len (valsOf rs)
      match h : sums (valsOf rs), this with
      | [a, b, c, d, e, f], _ => exact ⟨a, b, c, d, e, f, rfl⟩
    obtain ⟨y0, y1, y2, y3, y4, y5, hy⟩ := set_six (k := k) hx ((sumK (valsOf rs) k + 1) % 18446744073709551616)
    have HX := Lib.hid hx
    have HY := Lib.hid hy
    clear hbad o1 o2 o3 hadd hv hx hy
    have HLEN := Lib.hid hlen
    clear hlen
    have hq := HK.out.sum A c rs w' H1.out
    rw [HS1.out, HX.out] at hq
    go_wp2_with fail
    refine hq.mono ?_
    intro e W2 h1
    obtain ⟨rfl, k1⟩ := sum_lit h1
    have B2 := Lib.hid (below_next B1.out k1)
    have G2 := Lib.hid (G1.out.below k1)
    clear hq h1 k1
    obtain ⟨X, hX⟩ : ∃ X, (.cells #[.int .u64 x0, .int .u64 x1, .int .u64 x2, .int .u64 x3, .int .u64 x4, .int .u64 x5] 28 (0, 0) : Obj) = X := ⟨_, rfl⟩
    obtain ⟨W3, hW3⟩ : ∃ W3, W2.alloc X = W3 := ⟨_, rfl⟩
    have k4 : Below W2.heap.size W2 W3 := by rw [← hW3]; exact boxed W2 X
    have K3 := Lib.hid k4
    have B3 := Lib.hid (below_next B2.out k4)
    have G3 := Lib.hid (G2.out.below k4)
    have S3 : Hid (SixAt W3 W2.heap.size [x0, x1, x2, x3, x4, x5]) := Lib.hid (by rw [← hW3, ← hX]; exact heap_alloc_new _ _)
    have hq := HK.out.sum A1 c1 r1 W3 G3.out
    rw [HS2.out, HY.out] at hq
    rw [← hX] at hW3
    have HW3 := Lib.hid hW3
    rw [← hW3] at hq
    clear k4 hX hW3
    go_wp2_with fail
    refine hq.mono ?_
    rw [HW3.out]
    intro e W4 h1
    obtain ⟨rfl, k1⟩ := sum_lit h1
    have K4 := Lib.hid (below_next K3.out k1)
    have B4 := Lib.hid (below_next B3.out k1)
    have G4 := Lib.hid (G3.out.below k1)
    have S4 := Lib.hid (S3.out.below k1 (block_lt S3.out))
    clear hq h1 k1 S3 HW3
    obtain ⟨X, hX⟩ : ∃ X, (.cells #[.int .u64 y0, .int .u64 y1, .int .u64 y2, .int .u64 y3, .int .u64 y4, .int .u64 y5] 28 (0, 0) : Obj) = X := ⟨_, rfl⟩
    obtain ⟨W5, hW5⟩ : ∃ W5, W4.alloc X = W5 := ⟨_, rfl⟩
    have k4 : Below W4.heap.size W4 W5 := by rw [← hW5]; exact boxed W4 X
    have K5 := Lib.hid (below_next K4.out k4)
    have B5 := Lib.hid (below_next B4.out k4)
    have G5 := Lib.hid (G4.out.below k4)
    have S5 := Lib.hid (S4.out.below k4 (block_lt S4.out))
    have T5 : Hid (SixAt W5 W4.heap.size [y0, y1, y2, y3, y4, y5]) := Lib.hid (by rw [← hW5, ← hX]; exact heap_alloc_new _ _)
    have hne : W2.heap.size ≠ W4.heap.size := by have := block_lt S4.out; omega
    obtain ⟨s, hs⟩ : ∃ s, sumK (valsOf rs) k = s := ⟨_, rfl⟩
    have hcell : W5.cell? ⟨W2.heap.size, k, none⟩ = some (.int .u64 s) := by
      rw [S5.out.cell k, ← HX.out, HAT.out, hs]
      rfl
    have hfree := S5.out.free k
    have S6 : Hid (SixAt (W5.setCell ⟨W2.heap.size, k, none⟩ (.int .u64 ((s + 1) % 18446744073709551616))) W2.heap.size [y0, y1, y2, y3, y4, y5]) := Lib.hid (by
      have h := S5.out.set k ((s + 1) % 18446744073709551616)
      rw [← HX.out, ← hs, HY.out] at h
      rw [← hs]
      exact h)
    have T6 : Hid (SixAt (W5.setCell ⟨W2.heap.size, k, none⟩ (.int .u64 ((s + 1) % 18446744073709551616))) W4.heap.size [y0, y1, y2, y3, y4, y5]) := Lib.hid (T5.out.other (Ne.symm hne))
    have k6 : Below W2.heap.size W5 (W5.setCell ⟨W2.heap.size, k, none⟩ (.int .u64 ((s + 1) % 18446744073709551616))) := (Below.refl _ _).setCell (p := ⟨W2.heap.size, k, none⟩) (Nat.le_refl _) _
    have e3 : decide ((k : Int) < 0) = false := by rw [decide_eq_false_iff_not]; omega
    have e4 : decide ((6 : Int) ≤ (k : Int)) = false := by rw [decide_eq_false_iff_not]; omega
    have e4' : decide (6 ≤ k) = false := by rw [decide_eq_false_iff_not]; omega
    rw [← hW5, ← hX] at hcell hfree
    have HW5 : Hid (W4.alloc X = W5) := Lib.hid hW5
    rw [← hX] at HW5
    clear hX hW5 k4 hs hne S4
    go_wp2_with fail
    rw [HW5.out]
    clear hcell hfree HW5
    obtain ⟨W6, hW6⟩ : ∃ W6, W5.setCell ⟨W2.heap.size, k, none⟩ (.int .u64 (IntKind.u64.wrap (s + 1))) = W6 := ⟨_, rfl⟩
    have hW6' : W5.setCell ⟨W2.heap.size, k, none⟩ (.int .u64 ((s + 1) % 18446744073709551616)) = W6 := hW6
    rw [hW6'] at S6 T6 k6
    rw [hW6]
    have hsz : w.heap.size ≤ W2.heap.size := B2.out.size
    have B6 := Lib.hid (B5.out.trans (k6.mono hsz))
    have G6 : Hid (GridIn .u64 W6 A1 c1 r1) := Lib.hid (G2.out.below (K5.out.trans k6))
    have hq := counted_is HK.out W6
    refine hq.mono ?_
    rintro e W7 ⟨rfl, k1⟩
    have B7 := Lib.hid (below_next B6.out k1)
    have G7 := Lib.hid (G6.out.below k1)
    have S7 := Lib.hid (S6.out.below k1 (block_lt S6.out))
    have T7 := Lib.hid (T6.out.below k1 (block_lt T6.out))
    clear hq k1 hW6 hW6' k6 S6 T6
    have heq := fun W => six_same y0 y1 y2 y3 y4 y5 W
    obtain ⟨q0, q1, q2, q3, q4, q5⟩ := six_cells S7.out
    obtain ⟨s0, s1, s2, s3, s4, s5⟩ := six_cells T7.out
    have hq := HK.out.is A1 c1 r1 W7 G7.out
    rw [HIS.out] at hq
    go_wp2_with fail
    refine hq.mono ?_
    rintro e W8 ⟨rfl, k1⟩
    have B8 := Lib.hid (below_next B7.out k1)
    clear hq k1 q0 q1 q2 q3 q4 q5 s0 s1 s2 s3 s4 s5 heq
    rw [HLEN.out]
    have tl : ((rs.length : Int) == (rs.length : Int)) = true := eq_self
    go_wp2_with fail
    go_ret
    exact ⟨rfl, B8.out⟩
end Go.Proofs.Ytbbcgcinpodhkaa
