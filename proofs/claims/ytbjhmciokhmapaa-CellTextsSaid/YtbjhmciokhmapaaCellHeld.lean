/- The chapter's example, asked ahead of each statement of layer 2: it answers true. -/
import Derived.Test.YtbjhmciokhmapaaCellIb
import Derived.Test.YtbjhmciokhmapaaCellSb
namespace Go.Proofs.Ytbjhmciokhmapaa
open Go.RowKit
set_option linter.unusedVariables false
set_option linter.unusedSimpArgs false
set_option maxRecDepth 100000

/-- A cell of numbers and one of texts, both made since w. -/
def Two (w wi : World) (B D : Nat) (v n : Int) (s : ByteArray) (m : Int) : Prop :=
  w.heap.size ≤ B ∧ w.heap.size ≤ D ∧ B ≠ D ∧ CellI wi B v n ∧ CellS wi D s m ∧ w.grownBy wi none
theorem Two.i {w wi wj : World} {B D : Nat} {v n v' n' : Int} {s : ByteArray} {m : Int} (h : Two w wi B D v n s m) (k : CellI wj B v' n') (g : wi.grownBy wj (some B)) : Two w wj B D v' n' s m :=
  ⟨h.1, h.2.1, h.2.2.1, k, h.2.2.2.2.1.beside h.2.2.2.1 g (Ne.symm h.2.2.1), grownBy_over h.2.2.2.2.2 g h.1⟩
theorem Two.s {w wi wj : World} {B D : Nat} {v n : Int} {s s' : ByteArray} {m m' : Int} (h : Two w wi B D v n s m) (k : CellS wj D s' m') (g : wi.grownBy wj (some D)) : Two w wj B D v n s' m' :=
  ⟨h.1, h.2.1, h.2.2.1, h.2.2.2.1.beside h.2.2.2.2.1 g h.2.2.1, k, grownBy_over h.2.2.2.2.2 g h.2.1⟩
theorem Two.alloc {w wi : World} {B D : Nat} {v n : Int} {s : ByteArray} {m : Int} (h : Two w wi B D v n s m) (o : Obj) : Two w (wi.alloc o) B D v n s m :=
  ⟨h.1, h.2.1, h.2.2.1, h.2.2.2.1.grown0 (World.grownBy_alloc _ _ _), h.2.2.2.2.1.grown0 (World.grownBy_alloc _ _ _), grownBy_trans h.2.2.2.2.2 (World.grownBy_alloc _ _ _)⟩

/-- The call answers b, and nothing that was there has turned. -/
def Says (w : World) (b : Bool) (e : Ending) (w' : World) : Prop := e = .returned (.bool b) ∧ w.grownBy w' none

theorem held_is (w : World) : Calls Try.prog 8 #[] w (Says w true) := by
  go_enter Try.func8, Try.ntmps8
  go_wp2_with fail
  refine (newI _ _).mono ?_
  rintro e w1 ⟨B, hB, rfl, hc1, hg1⟩
  go_wp2_with fail
  refine (newS _ _).mono ?_
  rintro e w2 ⟨D, hD, rfl, hs, hg2⟩
  have S : Two w w2 B D 5 0 ⟨#[97]⟩ 0 := ⟨hB, Nat.le_trans hg1.size hD, by have := hc1.lt; omega, hc1.grown0 hg2, hs, grownBy_trans hg1 hg2⟩
  clear hB hD hc1 hs hg1 hg2
  go_wp2_with fail
  refine (storeI_none _ _).mono ?_
  rintro e w3 ⟨rfl, hw⟩
  have S3 : Two w w3 B D 5 0 ⟨#[97]⟩ 0 := by rw [hw]; exact S.alloc _
  clear S hw
  go_wp2_with fail
  refine (loadI _ _ _ _ S3.2.2.2.1 (by omega) (by omega)).mono ?_
  rintro e w4 ⟨rfl, k, g⟩
  have S4 := S3.i k g
  clear S3 k g
  go_wp2_with fail
  refine (swapI _ _ _ _ _ S4.2.2.2.1 (by omega) (by omega)).mono ?_
  rintro e w5 ⟨rfl, k, g⟩
  have S5 := S4.i k g
  clear S4 k g
  go_wp2_with fail
  refine (casI_miss _ _ _ _ _ _ S5.2.2.2.1 (by decide) (by omega) (by omega)).mono ?_
  rintro e w6 ⟨rfl, k, g⟩
  have S6 := S5.i k g
  clear S5 k g
  go_wp2_with fail
  refine (casI_hit _ _ _ _ _ _ S6.2.2.2.1 (by decide) (by omega) (by omega)).mono ?_
  rintro e w7 ⟨rfl, k, g⟩
  have S7 := S6.i k g
  clear S6 k g
  go_wp2_with fail
  refine (loadI _ _ _ _ S7.2.2.2.1 (by omega) (by omega)).mono ?_
  rintro e w8 ⟨rfl, k, g⟩
  have S8 := S7.i k g
  clear S7 k g
  go_wp2_with fail
  refine (accessesI _ _ _ _ S8.2.2.2.1).mono ?_
  rintro e w' ⟨rfl, rfl⟩
  go_wp2_with fail
  refine (casS_hit _ _ _ _ _ _ S8.2.2.2.2.1 (beq_self_eq_true _) (by omega) (by omega)).mono ?_
  rintro e w9 ⟨rfl, k, g⟩
  have S9 := S8.s k g
  clear S8 k g
  go_wp2_with fail
  refine (loadS _ _ _ _ S9.2.2.2.2.1 (by omega) (by omega)).mono ?_
  rintro e wa ⟨rfl, k, g⟩
  have Sa := S9.s k g
  clear S9 k g
  go_wp2_with fail
  refine (loadI_none _).mono ?_
  rintro e w' ⟨rfl, rfl⟩
  go_wp2_with fail
  refine (casI_none _ _ _).mono ?_
  rintro e wb ⟨rfl, hw⟩
  have Sb : Two w wb B D 9 5 ⟨#[98]⟩ 2 := by rw [hw]; exact Sa.alloc _
  clear Sa hw
  go_wp2_with fail
  refine (casI_none _ _ _).mono ?_
  rintro e wc ⟨rfl, hw⟩
  have Sc : Two w wc B D 9 5 ⟨#[98]⟩ 2 := by rw [hw]; exact Sb.alloc _
  clear Sb hw
  go_wp2_with fail
  refine (swapI_none _ _).mono ?_
  rintro e wd ⟨rfl, hw⟩
  have Sd : Two w wd B D 9 5 ⟨#[98]⟩ 2 := by rw [hw]; exact Sc.alloc _
  clear Sc hw
  go_wp2_with fail
  refine (accessesI_none _).mono ?_
  rintro e w' ⟨rfl, rfl⟩
  go_wp2_with fail
  go_ret
  exact ⟨rfl, Sd.2.2.2.2.2⟩
end Go.Proofs.Ytbjhmciokhmapaa
