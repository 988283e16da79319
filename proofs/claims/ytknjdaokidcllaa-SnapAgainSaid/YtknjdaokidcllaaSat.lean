/- What stands at a number; a zero value, if nothing does. -/
import Derived.Test.YtknjdaokidcllaaSfind
import Derived.RegionTactic
namespace Go.Proofs.Ytknjdaokidcllaa
open Go.RowKit
set_option linter.unusedVariables false
set_option linter.unusedSimpArgs false
set_option maxRecDepth 100000

theorem atS_is (A : Option Addr) (c B : Nat) (xs : List ByteArray) (i : Int) (w : World) (hr : Reads w B A (xs.map Value.string)) (hm : xs.length ≤ maxLen) :
    Calls Try.prog 31 #[.slice A xs.length c, .int .i64 i] w fun e w' => e = .returned (.string (nameL xs i)) ∧ w = w' := by
  unfold maxLen at hm
  rcases hd : decide (i < 0) with _ | _
  · have h0 : 0 ≤ i := by have := of_decide_eq_false hd; omega
    obtain ⟨k, rfl⟩ : ∃ k : Nat, i = (k : Int) := ⟨i.toNat, by omega⟩
    by_cases hlt : k < xs.length
    · have hge : decide ((xs.length : Int) ≤ (k : Int)) = false := by rw [decide_eq_false_iff_not]; omega
      obtain ⟨ad, rfl, hb, f0⟩ := hr.str hlt
      have e : nameL xs (k : Int) = xs[k] := by
        unfold nameL
        rw [if_pos (by omega)]
        simp [List.getD, hlt]
      rw [e]
      clear e h0
      generalize xs[k] = x at f0 ⊢
      go_enter Try.func31, Try.ntmps31
      go_wp2
      go_ret
      exact ⟨rfl, rfl⟩
    · have hge : decide ((xs.length : Int) ≤ (k : Int)) = true := by rw [decide_eq_true_eq]; omega
      have e : nameL xs (k : Int) = ⟨#[]⟩ := by
        unfold nameL
        rw [if_pos (by omega)]
        simp [List.getD, List.getElem?_eq_none (show xs.length ≤ k by omega)]
      rw [e]
      clear e hr h0
      go_enter Try.func31, Try.ntmps31
      go_wp2
      go_ret
      exact ⟨rfl, rfl⟩
  · have h0 : ¬ 0 ≤ i := by have := of_decide_eq_true hd; omega
    have e : nameL xs i = ⟨#[]⟩ := by
      unfold nameL
      rw [if_neg h0]
    rw [e]
    clear e hr h0
    go_enter Try.func31, Try.ntmps31
    go_wp2
    go_ret
    exact ⟨rfl, rfl⟩

def atC (cs : List Cl) (i : Int) : Cl := if 0 ≤ i then cs.getD i.toNat Cl.none else Cl.none
theorem atC_name (cs : List Cl) (i : Int) : (atC cs i).name = nameC cs i := by
  unfold atC nameC
  split <;> rfl
def Cl.agg (x : Cl) : Value := .agg #[.string x.name, .int .i64 x.policy, .int .i64 x.slots, .slice x.ha x.hn x.hc]
theorem atC_is (A : Option Addr) (c B : Nat) (xs : List Cl) (i : Int) (w : World) (hr : Rows4 w B A (xs.map Cl.cells)) (hB : B ≤ w.heap.size) (hm : xs.length ≤ maxLen) :
    Calls Try.prog 32 #[.slice A xs.length c, .int .i64 i] w fun e w' => e = .returned (atC xs i).agg ∧ Below w.heap.size w w' := by
  unfold maxLen at hm
  rcases hd : decide (i < 0) with _ | _
  · have h0 : 0 ≤ i := by have := of_decide_eq_false hd; omega
    obtain ⟨k, rfl⟩ : ∃ k : Nat, i = (k : Int) := ⟨i.toNat, by omega⟩
    by_cases hlt : k < xs.length
    · have hge : decide ((xs.length : Int) ≤ (k : Int)) = false := by rw [decide_eq_false_iff_not]; omega
      have e : atC xs (k : Int) = xs[k] := by
        unfold atC
        rw [if_pos (by omega)]
        simp [List.getD, hlt]
      rw [e]
      clear e h0
      obtain ⟨ad, rfl, hb, hcell⟩ := ((hr.more hB).below (boxed w (.cells #[.string ⟨#[]⟩, .int .i64 0, .int .i64 0, .slice none 0 0] 46))) (by rw [List.length_map]; omega)
      obtain ⟨f0, f1, f2, f3⟩ := four_of (hcell k xs[k].cells (by rw [List.getElem?_map, List.getElem?_eq_getElem hlt]; rfl)) rfl
      clear hcell hr
      generalize xs[k] = x at f0 f1 f2 f3 ⊢
      go_enter Try.func32, Try.ntmps32
      go_wp2
      refine bodyPost_ret (v := x.agg) ?_ rfl ⟨rfl, boxed w _⟩
      obtain ⟨h0, h1, h2, h3⟩ := four_in4' w (.string x.name) (.int .i64 x.policy) (.int .i64 x.slots) (.slice x.ha x.hn x.hc) 46
      simp [results, Try.f32, go_sem, h0, h1, h2, h3]
      rfl
    · have hge : decide ((xs.length : Int) ≤ (k : Int)) = true := by rw [decide_eq_true_eq]; omega
      have e : atC xs (k : Int) = Cl.none := by
        unfold atC
        rw [if_pos (by omega)]
        simp [List.getD, List.getElem?_eq_none (show xs.length ≤ k by omega)]
      rw [e]
      clear e hr h0
      go_enter Try.func32, Try.ntmps32
      go_wp2
      refine bodyPost_ret (v := Cl.none.agg) ?_ rfl ⟨rfl, below_alloc (boxed w _) (Nat.le_refl _)⟩
      have h := fun i => World.cell?_alloc_new (w.alloc (.cells #[.string ⟨#[]⟩, .int .i64 0, .int .i64 0, .slice none 0 0] 46)) #[.string ⟨#[]⟩, .int .i64 0, .int .i64 0, .slice none 0 0] 46 i
      simp [results, Try.f32, go_sem, h]
      rfl
  · have h0 : ¬ 0 ≤ i := by have := of_decide_eq_true hd; omega
    have e : atC xs i = Cl.none := by
      unfold atC
      rw [if_neg h0]
    rw [e]
    clear e hr h0
    go_enter Try.func32, Try.ntmps32
    go_wp2
    refine bodyPost_ret (v := Cl.none.agg) ?_ rfl ⟨rfl, below_alloc (boxed w _) (Nat.le_refl _)⟩
    have h := fun i => World.cell?_alloc_new (w.alloc (.cells #[.string ⟨#[]⟩, .int .i64 0, .int .i64 0, .slice none 0 0] 46)) #[.string ⟨#[]⟩, .int .i64 0, .int .i64 0, .slice none 0 0] 46 i
    simp [results, Try.f32, go_sem, h]
    rfl
end Go.Proofs.Ytknjdaokidcllaa
