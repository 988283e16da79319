/- CellAccess: the walk. -/
import Derived.Test.YtbjhmciokhmapaaRtold
namespace Go.Proofs.Ytbjhmciokhmapaa
open Go.RowKit
set_option linter.unusedVariables false
set_option linter.unusedSimpArgs false
set_option maxRecDepth 100000

theorem cellAccess_held (v : Int) (a1 a2 a3 : Option Addr) (n1 n2 n3 c1 c2 c3 : Nat) (w : World) (h1 : n1 ≤ maxLen) (h2 : n2 ≤ maxLen) (h3 : n3 ≤ maxLen) (h : 1000 < n1 ∨ n2 ≠ n1 ∨ n3 ≠ n1) :
    Calls Try.prog 3 #[.int .i64 v, .slice a1 n1 c1, .slice a2 n2 c2, .slice a3 n3 c3] w (Says w true) := by
  unfold maxLen at h1 h2 h3
  by_cases k1 : 1000 < n1
  · clear h
    go_enter Try.func3, Try.ntmps3
    go_wp2_with fail
    refine (held_is _).mono ?_
    rintro e w1 ⟨rfl, g⟩
    go_wp2_with fail
    go_ret
    exact ⟨rfl, g⟩
  · by_cases k2 : n2 = n1
    · subst k2
      have k3 : n3 ≠ n2 := by omega
      clear h
      have b1 : ((n2 : Int) != (n2 : Int)) = false := by simp
      have b2 : ((n3 : Int) != (n2 : Int)) = true := by simp; omega
      clear k3
      go_enter Try.func3, Try.ntmps3
      go_wp2_with fail
      refine (held_is _).mono ?_
      rintro e w1 ⟨rfl, g⟩
      go_wp2_with fail
      go_ret
      exact ⟨rfl, g⟩
    · clear h
      have b1 : ((n2 : Int) != (n1 : Int)) = true := by simp; omega
      clear k2
      go_enter Try.func3, Try.ntmps3
      go_wp2_with fail
      refine (held_is _).mono ?_
      rintro e w1 ⟨rfl, g⟩
      go_wp2_with fail
      go_ret
      exact ⟨rfl, g⟩

theorem cellAccess_runs (v : Int) (a1 a2 a3 : Option Addr) (c1 c2 c3 : Nat) (K A B : List Int) (w : World) (hn : K.length ≤ 1000) (hA : A.length = K.length) (hB : B.length = K.length)
    (h1 : Hid (Reads w w.heap.size a1 (K.map (Value.int .i64)))) (h2 : Hid (Reads w w.heap.size a2 (A.map (Value.int .i64)))) (h3 : Hid (Reads w w.heap.size a3 (B.map (Value.int .i64)))) :
    Calls Try.prog 3 #[.int .i64 v, .slice a1 K.length c1, .slice a2 A.length c2, .slice a3 B.length c3] w (Says w true) := by
  have b1 : ((A.length : Int) != (K.length : Int)) = false := by simp; omega
  have b2 : ((B.length : Int) != (K.length : Int)) = false := by simp; omega
  have HA := Lib.hid hA
  have HB := Lib.hid hB
  clear hA hB
  go_enter Try.func3, Try.ntmps3
  go_wp2_with fail
  refine (newI _ _).mono ?_
  rintro e w1 ⟨D, hD, rfl, hc1, hg1⟩
  go_wp2_with fail
  refine (told_is w _ _ v _ _ _ _ _ _ K A B hn HA.out HB.out hc1 hD hg1 h1 h2 h3).mono ?_
  rintro e w2 ⟨x, rfl, S⟩
  clear hc1 hg1
  have bel2 := below_grownBy S.2.2.1 (Nat.le_refl _) (fun _ h => by cases h)
  go_wp2_with fail
  refine (rtold_is _ v _ _ _ _ _ _ K A B hn HA.out HB.out (Lib.hid ((h1.out.below bel2).more bel2.size)) (Lib.hid ((h2.out.below bel2).more bel2.size)) (Lib.hid ((h3.out.below bel2).more bel2.size))).mono ?_
  rintro e w3 ⟨y, rfl, g3, O3⟩
  clear bel2
  have S3 := S.grown g3
  clear S g3
  have hl := tellsTo_length v K A B K.length
  generalize tellsTo v K A B K.length = ys at S3 O3 hl
  have hl2 : ys.length ≤ 1000 := by omega
  clear hl
  generalize hasAt v K A B K.length = X at S3 ⊢
  go_wp2_with fail
  refine (accessesI _ _ _ _ S3.2.1).mono ?_
  rintro e w' ⟨rfl, rfl⟩
  go_wp2_with fail
  refine (held_is _).mono ?_
  rintro e w4 ⟨rfl, g⟩
  have S4 := S3.grown g
  have O4 := O3.kept0 g
  clear S3 O3 g
  obtain ⟨Ax, cx, hx⟩ := S4.2.2.2.1.slice
  obtain ⟨Ay, cy, hy⟩ := O4.slice
  subst hx
  subst hy
  have rx := Lib.hid S4.2.2.2.1.reads
  have ry := Lib.hid O4.reads
  clear O4
  simp only [List.length_map]
  go_wp2_with fail
  refine (same2_yes _ _ _ _ ys _ (by simp [maxLen]; omega) rx ry).mono ?_
  rintro e w5 ⟨rfl, g⟩
  have S5 := S4.grown g
  clear S4 g rx ry
  go_wp2_with fail
  refine (loadI' _ _ _ _ S5.2.1 (by omega) (by omega)).mono ?_
  rintro e w6 ⟨⟨rfl, kk, g⟩, m⟩
  have S6 := S5.go (e := .returned (.int .i64 X)) (r := .int .i64 X) kk g m
  clear S5 kk g m
  go_wp2_with fail
  go_ret
  exact ⟨rfl, S6.2.2.1⟩

theorem cellAccess_walk (v : Int) (a1 : Option Addr) (c1 : Nat) (K : List Int) (a2 : Option Addr) (c2 : Nat) (A : List Int) (a3 : Option Addr) (c3 : Nat) (B : List Int) (w : World) (w0 : (Lit.int .i64 v).wf = true) (h1 : IntsIn .i64 w a1 c1 K) (h2 : IntsIn .i64 w a2 c2 A) (h3 : IntsIn .i64 w a3 c3 B) :
    Calls Try.prog 3 #[.int .i64 v, .slice a1 K.length c1, .slice a2 A.length c2, .slice a3 B.length c3] w fun e w' => e = .returned (.bool true) ∧ Below w.heap.size w w' := by
  by_cases h : 1000 < K.length ∨ A.length ≠ K.length ∨ B.length ≠ K.length
  · exact (cellAccess_held v a1 a2 a3 _ _ _ c1 c2 c3 w (Nat.le_trans h1.2.1 h1.2.2.1) (Nat.le_trans h2.2.1 h2.2.2.1) (Nat.le_trans h3.2.1 h3.2.2.1) h).mono fun _ _ h => says_below h
  · exact (cellAccess_runs v a1 a2 a3 c1 c2 c3 K A B w (by omega) (by omega) (by omega) (Lib.hid h1.1) (Lib.hid h2.1) (Lib.hid h3.1)).mono fun _ _ h => says_below h
end Go.Proofs.Ytbjhmciokhmapaa
