/- CellCas: the walk. -/
import Derived.Test.YtbjhmciokhmapaaCellHeld
namespace Go.Proofs.Ytbjhmciokhmapaa
open Go.RowKit
set_option linter.unusedVariables false
set_option linter.unusedSimpArgs false
set_option maxRecDepth 100000

theorem says_below {w w' : World} {b : Bool} {e : Ending} (h : Says w b e w') : e = .returned (.bool b) ∧ Below w.heap.size w w' :=
  ⟨h.1, below_grownBy h.2 (Nat.le_refl _) (fun _ h => by cases h)⟩

theorem cellCas_says (v a b : Int) (w : World) : Calls Try.prog 7 #[.int .i64 v, .int .i64 a, .int .i64 b] w (Says w true) := by
  have hvv : Hid ((v == v) = true) := Lib.hid (by simp)
  by_cases hav : a = v
  · have hq : Hid ((a == v) = true) := Lib.hid (by simp [hav])
    have hbb : Hid ((b == b) = true) := Lib.hid (by simp)
    clear hav
    go_enter Try.func7, Try.ntmps7
    go_wp2_with fail
    refine (newI _ _).mono ?_
    rintro e w1 ⟨B, hB, rfl, hc1, hg1⟩
    go_wp2_with fail
    refine (casI_hit _ _ _ _ _ _ hc1 hvv.out (by omega) (by omega)).mono ?_
    rintro e w2 ⟨rfl, k, g⟩
    have g2 := grownBy_over hg1 g hB
    clear hc1 hg1 g
    go_wp2_with fail
    refine (casI_hit _ _ _ _ _ _ k hq.out (by omega) (by omega)).mono ?_
    rintro e w3 ⟨rfl, k3, g⟩
    have g3 := grownBy_over g2 g hB
    clear k g2 g
    go_wp2_with fail
    refine (loadI _ _ _ _ k3 (by omega) (by omega)).mono ?_
    rintro e w4 ⟨rfl, k4, g⟩
    have g4 := grownBy_over g3 g hB
    clear k3 g3 g
    go_wp2_with fail
    refine (held_is _).mono ?_
    rintro e w5 ⟨rfl, g⟩
    have k5 := k4.grown0 g
    have g5 := grownBy_trans g4 g
    clear k4 g4 g
    have e1 := hq.out
    have e2 := hbb.out
    go_wp2_with fail
    refine (accessesI _ _ _ _ k5).mono ?_
    rintro e w' ⟨rfl, rfl⟩
    go_wp2_with fail
    go_ret
    exact ⟨rfl, g5⟩
  · have hq : Hid ((a == v) = false) := Lib.hid (by simp [hav])
    clear hav
    go_enter Try.func7, Try.ntmps7
    go_wp2_with fail
    refine (newI _ _).mono ?_
    rintro e w1 ⟨B, hB, rfl, hc1, hg1⟩
    go_wp2_with fail
    refine (casI_hit _ _ _ _ _ _ hc1 hvv.out (by omega) (by omega)).mono ?_
    rintro e w2 ⟨rfl, k, g⟩
    have g2 := grownBy_over hg1 g hB
    clear hc1 hg1 g
    go_wp2_with fail
    refine (casI_miss _ _ _ _ _ _ k hq.out (by omega) (by omega)).mono ?_
    rintro e w3 ⟨rfl, k3, g⟩
    have g3 := grownBy_over g2 g hB
    clear k g2 g
    go_wp2_with fail
    refine (loadI _ _ _ _ k3 (by omega) (by omega)).mono ?_
    rintro e w4 ⟨rfl, k4, g⟩
    have g4 := grownBy_over g3 g hB
    clear k3 g3 g
    go_wp2_with fail
    refine (held_is _).mono ?_
    rintro e w5 ⟨rfl, g⟩
    have k5 := k4.grown0 g
    have g5 := grownBy_trans g4 g
    clear k4 g4 g
    have e1 := hq.out
    go_wp2_with fail
    refine (accessesI _ _ _ _ k5).mono ?_
    rintro e w' ⟨rfl, rfl⟩
    go_wp2_with fail
    go_ret
    exact ⟨rfl, g5⟩

theorem cellCas_walk (v a b : Int) (w : World) (w0 : (Lit.int .i64 v).wf = true) (w1 : (Lit.int .i64 a).wf = true) (w2 : (Lit.int .i64 b).wf = true) :
    Calls Try.prog 7 #[.int .i64 v, .int .i64 a, .int .i64 b] w fun e w' => e = .returned (.bool true) ∧ Below w.heap.size w w' :=
  (cellCas_says v a b w).mono fun _ _ h => says_below h
end Go.Proofs.Ytbjhmciokhmapaa
