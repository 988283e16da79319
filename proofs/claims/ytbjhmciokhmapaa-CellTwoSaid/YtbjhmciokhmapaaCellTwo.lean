/- CellTwo: the walk. -/
import Derived.Test.YtbjhmciokhmapaaCellCas
import Derived.Test.YtbjhmciokhmapaaArgs
namespace Go.Proofs.Ytbjhmciokhmapaa
open Go.RowKit
set_option linter.unusedVariables false
set_option linter.unusedSimpArgs false
set_option maxRecDepth 100000

/-- Two cells of numbers, made since w. -/
def Pair (w wi : World) (B D : Nat) (v n u m : Int) : Prop :=
  w.heap.size ≤ B ∧ w.heap.size ≤ D ∧ B ≠ D ∧ CellI wi B v n ∧ CellI wi D u m ∧ w.grownBy wi none
theorem Pair.a {w wi wj : World} {B D : Nat} {v n u m v' n' : Int} (h : Pair w wi B D v n u m) (k : CellI wj B v' n') (g : wi.grownBy wj (some B)) : Pair w wj B D v' n' u m :=
  ⟨h.1, h.2.1, h.2.2.1, k, h.2.2.2.2.1.beside h.2.2.2.1 g (Ne.symm h.2.2.1), grownBy_over h.2.2.2.2.2 g h.1⟩
theorem Pair.b {w wi wj : World} {B D : Nat} {v n u m v' n' : Int} (h : Pair w wi B D v n u m) (k : CellI wj D v' n') (g : wi.grownBy wj (some D)) : Pair w wj B D v n v' n' :=
  ⟨h.1, h.2.1, h.2.2.1, h.2.2.2.1.beside h.2.2.2.2.1 g h.2.2.1, k, grownBy_over h.2.2.2.2.2 g h.2.1⟩

/-- Where the loop stands. -/
def TwoAt (w : World) (B D n m : Nat) (x y i : Value) (wr : World) : Prop :=
  ∃ (k : Nat) (X Y na nb : Int), i = .int .i64 k ∧ x = .int .i64 X ∧ y = .int .i64 Y ∧ Pair w wr B D X na Y nb ∧ 0 ≤ na ∧ na ≤ 2 * k ∧ 0 ≤ nb ∧ nb ≤ 2 * k ∧ (k ≤ n ∨ k ≤ m)

theorem cellTwo_long (v : Int) (A A' : Option Addr) (n n' c c' : Nat) (w : World) (h : 500 < n ∨ 500 < n') (hn : n ≤ maxLen) (hn' : n' ≤ maxLen) :
    Calls Try.prog 6 #[.int .i64 v, .slice A n c, .slice A' n' c'] w fun e w' => e = .returned (.bool true) ∧ Below w.heap.size w w' := by
  unfold maxLen at hn hn'
  by_cases h1 : 500 < n
  · go_enter Try.func6, Try.ntmps6
    go_wp2_with fail
    go_ret
    exact ⟨rfl, Below.refl _ _⟩
  · have h2 : 500 < n' := by omega
    go_enter Try.func6, Try.ntmps6
    go_wp2_with fail
    go_ret
    exact ⟨rfl, Below.refl _ _⟩

theorem cellTwo_short (v : Int) (A A' : Option Addr) (c c' : Nat) (xs ys : List Int) (w : World) (h : xs.length ≤ 500) (h' : ys.length ≤ 500)
    (hx : Hid (Reads w w.heap.size A (xs.map (Value.int .i64)))) (hy : Hid (Reads w w.heap.size A' (ys.map (Value.int .i64)))) :
    Calls Try.prog 6 #[.int .i64 v, .slice A xs.length c, .slice A' ys.length c'] w (Says w true) := by
  go_enter Try.func6, Try.ntmps6
  go_wp2_with fail
  refine (newI _ _).mono ?_
  rintro e w1 ⟨B, hB, rfl, hc1, hg1⟩
  go_wp2_with fail
  refine (newI _ _).mono ?_
  rintro e w2 ⟨D, hD, rfl, hs, hg2⟩
  have S : Pair w w2 B D v 0 v 0 := ⟨hB, Nat.le_trans hg1.size hD, by have := hc1.lt; omega, hc1.grown0 hg2, hs, grownBy_trans hg1 hg2⟩
  clear hB hD hc1 hs hg1 hg2
  go_wp2_with fail
  go_loopw [9, 10, 11] (fun x y i wr => TwoAt w B D xs.length ys.length x y i wr) (fun _ _ i _ => (1000 - intOf i).toNat)
  case atStart => exact ⟨0, v, v, 0, 0, rfl, rfl, rfl, S, by omega, by omega, by omega, by omega, by omega⟩
  case round =>
    obtain ⟨k, X, Y, na, nb, rfl, rfl, rfl, S, ha0, ha1, hb0, hb1, hk⟩ := hrel
    by_cases hl : k < xs.length
    · obtain ⟨ad, rfl, hadB, hc0⟩ := hx.out.int hl
      generalize xs[k] = z at hc0
      have HC0 := Lib.hid hc0
      clear hc0
      have hc := S.2.2.2.2.2.cell HC0.out (by simp)
      by_cases hm : k < ys.length
      · obtain ⟨ad', rfl, hadB', hc0'⟩ := hy.out.int hm
        generalize ys[k] = z' at hc0'
        have HC0' := Lib.hid hc0'
        clear hc0'
        go_wp2_with fail
        refine (storeI _ _ _ _ _ S.2.2.2.1 (by omega) (by omega)).mono ?_
        rintro e w3 ⟨rfl, kk, g⟩
        have S3 := S.a kk g
        clear S kk g hc
        have hc := S3.2.2.2.2.2.cell HC0.out (by simp)
        have hc' := S3.2.2.2.2.2.cell HC0'.out (by simp)
        go_wp2_with fail
        refine (swapI _ _ _ _ _ S3.2.2.2.2.1 (by omega) (by omega)).mono ?_
        rintro e w4 ⟨rfl, kk, g⟩
        have S4 := S3.b kk g
        clear S3 kk g hc hc'
        have hc' := S4.2.2.2.2.2.cell HC0'.out (by simp)
        go_wp2_with fail
        refine (loadI _ _ _ _ S4.2.2.2.1 (by omega) (by omega)).mono ?_
        rintro e w5 ⟨rfl, kk, g⟩
        have S5 := S4.a kk g
        clear S4 kk g hc'
        go_wp2_with fail
        refine (loadI _ _ _ _ S5.2.2.2.2.1 (by omega) (by omega)).mono ?_
        rintro e w6 ⟨rfl, kk, g⟩
        have S6 := S5.b kk g
        clear S5 kk g
        go_wp2_with fail
        go_roundw
        case rel => exact ⟨k + 1, z, z', _, _, by go_num, rfl, rfl, S6, by omega, by omega, by omega, by omega, by omega⟩
        case measure => simp [intOf]; omega
      · go_wp2_with fail
        refine (storeI _ _ _ _ _ S.2.2.2.1 (by omega) (by omega)).mono ?_
        rintro e w3 ⟨rfl, kk, g⟩
        have S3 := S.a kk g
        clear S kk g hc
        have hc := S3.2.2.2.2.2.cell HC0.out (by simp)
        go_wp2_with fail
        refine (loadI _ _ _ _ S3.2.2.2.1 (by omega) (by omega)).mono ?_
        rintro e w5 ⟨rfl, kk, g⟩
        have S5 := S3.a kk g
        clear S3 kk g hc
        go_wp2_with fail
        refine (loadI _ _ _ _ S5.2.2.2.2.1 (by omega) (by omega)).mono ?_
        rintro e w6 ⟨rfl, kk, g⟩
        have S6 := S5.b kk g
        clear S5 kk g
        go_wp2_with fail
        go_roundw
        case rel => exact ⟨k + 1, z, Y, _, _, by go_num, rfl, rfl, S6, by omega, by omega, by omega, by omega, by omega⟩
        case measure => simp [intOf]; omega
    · by_cases hm : k < ys.length
      · obtain ⟨ad', rfl, hadB', hc0'⟩ := hy.out.int hm
        generalize ys[k] = z' at hc0'
        have HC0' := Lib.hid hc0'
        clear hc0'
        have hc' := S.2.2.2.2.2.cell HC0'.out (by simp)
        go_wp2_with fail
        refine (swapI _ _ _ _ _ S.2.2.2.2.1 (by omega) (by omega)).mono ?_
        rintro e w4 ⟨rfl, kk, g⟩
        have S4 := S.b kk g
        clear S kk g hc'
        have hc' := S4.2.2.2.2.2.cell HC0'.out (by simp)
        go_wp2_with fail
        refine (loadI _ _ _ _ S4.2.2.2.1 (by omega) (by omega)).mono ?_
        rintro e w5 ⟨rfl, kk, g⟩
        have S5 := S4.a kk g
        clear S4 kk g hc'
        go_wp2_with fail
        refine (loadI _ _ _ _ S5.2.2.2.2.1 (by omega) (by omega)).mono ?_
        rintro e w6 ⟨rfl, kk, g⟩
        have S6 := S5.b kk g
        clear S5 kk g
        go_wp2_with fail
        go_roundw
        case rel => exact ⟨k + 1, X, z', _, _, by go_num, rfl, rfl, S6, by omega, by omega, by omega, by omega, by omega⟩
        case measure => simp [intOf]; omega
      · go_wp2_with fail
        refine (held_is _).mono ?_
        rintro e w7 ⟨rfl, g⟩
        have g7 := grownBy_trans S.2.2.2.2.2 g
        go_wp2_with fail
        go_ret
        exact ⟨rfl, g7⟩

theorem cellTwo_walk (v : Int) (A : Option Addr) (c : Nat) (xs : List Int) (A' : Option Addr) (c' : Nat) (ys : List Int) (w : World) (w0 : (Lit.int .i64 v).wf = true) (hx : IntsIn .i64 w A c xs) (hy : IntsIn .i64 w A' c' ys) :
    Calls Try.prog 6 #[.int .i64 v, .slice A xs.length c, .slice A' ys.length c'] w fun e w' => e = .returned (.bool true) ∧ Below w.heap.size w w' := by
  by_cases h : 500 < xs.length ∨ 500 < ys.length
  · exact cellTwo_long v A A' xs.length ys.length c c' w h (Nat.le_trans hx.2.1 hx.2.2.1) (Nat.le_trans hy.2.1 hy.2.2.1)
  · exact (cellTwo_short v A A' c c' xs ys w (by omega) (by omega) (Lib.hid hx.1) (Lib.hid hy.1)).mono fun _ _ h => says_below h
end Go.Proofs.Ytbjhmciokhmapaa
