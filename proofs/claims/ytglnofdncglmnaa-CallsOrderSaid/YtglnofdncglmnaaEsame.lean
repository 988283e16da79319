/- The document's Same, of equal rows of calls. -/
import Derived.Test.YtglnofdncglmnaaEeq
import Derived.Test.YtglnofdncglmnaaEload
import Derived.Test.YtglnofdncglmnaaStill
namespace Go.Proofs.Ytglnofdncglmnaa
open Go.RowKit
set_option linter.unusedVariables false
set_option linter.unusedSimpArgs false
set_option maxRecDepth 100000

theorem cal_size : Try.prog.cellsOf 40 = 18 := by kernel_rfl
/-- A call that lies there is loaded whole. -/
theorem load_cal {w : World} {p : Addr} {c : Cal} (h : Lies w p c.cells) : (Instr.loadAt 40 (.pointer (some p))).run Try.prog w = .ok c.val w := by
  exact run_load_list 40 p c.cells (by rfl) (by rfl) h
theorem neq_val (c : Cal) (w : World) : (binOp .neq 40 c.val c.val).run Try.prog w = .ok (.bool false) w := neq_same c w
theorem guard_val (b : BinOp) (x y : Operand) (c d : Cal) (w : World) : (eqGuard b 40 x y c.val d.val).run Try.prog w = .ok () w := run_eqGuard_agg w _ _ _ _ _ _ (by kernel_rfl)

set_option maxHeartbeats 1600000 in
theorem rsame_is (A1 A2 : Option Addr) (c1 c2 : Nat) (l : List Cal) (w : World) (h1 : RowsN 18 w w.heap.size A1 (l.map Cal.cells)) (h2 : RowsN 18 w w.heap.size A2 (l.map Cal.cells)) (hl : l.length ≤ 100000) :
    Calls Try.prog 11 #[.slice A1 l.length c1, .slice A2 l.length c2] w fun e w' => e = .returned (.bool true) ∧ Below w.heap.size w w' := by
  have H1 := Lib.hid h1
  have H2 := Lib.hid h2
  clear h1 h2
  have t0 : ((l.length : Int) != (l.length : Int)) = false := by simp
  go_enter Try.func11, Try.ntmps11
  go_wp2_with fail
  go_loopg [5] l.length (fun g i wr => ∃ k : Nat, k ≤ l.length ∧ g = l.length - k ∧ i = .int .i64 k ∧ Below w.heap.size w wr)
  case atStart => exact ⟨0, Nat.zero_le _, rfl, rfl, Below.refl _ _⟩
  case round =>
    obtain ⟨k, hk, rfl, rfl, B⟩ := hrel
    by_cases hlt : k < l.length
    · have t1 : decide (k < l.length) = true := decide_eq_true hlt
      have t1' : decide ((k : Int) < (l.length : Int)) = true := by rw [decide_eq_true_eq]; omega
      obtain ⟨ad1, rfl, hb1, hc1⟩ := cal_of (H1.out.below B) hlt
      obtain ⟨ad2, rfl, hb2, hc2⟩ := cal_of (H2.out.below B) hlt
      obtain ⟨x, hx⟩ : ∃ x, l[k] = x := ⟨_, rfl⟩
      rw [hx] at hc1 hc2
      have L1 : Hid (∀ i : Far w.heap.size wr, (Instr.loadAt 40 (.pointer (some (ad1.add (k * 18))))).run Try.prog i.v = .ok x.val i.v) := Lib.hid fun i => load_cal (hc1.below (by rw [block_of_add]; exact hb1) i.p)
      have L2 : Hid (∀ i : Far w.heap.size wr, (Instr.loadAt 40 (.pointer (some (ad2.add (k * 18))))).run Try.prog i.v = .ok x.val i.v) := Lib.hid fun i => load_cal (hc2.below (by rw [block_of_add]; exact hb2) i.p)
      have HB := Lib.hid B
      clear hc1 hc2 hx B
      go_wp2_with fail
      refine wp_region_far (B := w.heap.size) (by kernel_rfl) (by kernel_rfl) ?_
      repeat (first
        | (refine wpQuiet_load rfl (.tmp 19) 40 rfl _ _ rfl L1.out ?_; simp only [Act.put, List.setIfInBounds_toArray, List.set_cons_zero, List.set_cons_succ])
        | (refine wpQuiet_load rfl (.tmp 23) 40 rfl _ _ rfl L2.out ?_; simp only [Act.put, List.setIfInBounds_toArray, List.set_cons_zero, List.set_cons_succ])
        | (refine wpQuiet_bin rfl .neq (.tmp 20) (.tmp 24) 40 _ rfl _ _ (.bool false) rfl rfl (guard_val _ _ _ _ _) (neq_val _) ?_; simp only [Act.put, List.setIfInBounds_toArray, List.set_cons_zero, List.set_cons_succ])
        | go_big_quiet_step (fail))
      refine wpQuiet_nil ?_
      rintro _ ⟨i, rfl⟩
      have HBI := Lib.hid (HB.out.trans i.p)
      obtain ⟨W5, hW5⟩ : ∃ W5, i.v = W5 := ⟨_, rfl⟩
      rw [hW5] at HBI ⊢
      clear hW5 HB L1 L2
      go_wp2_with fail
      go_roundg (l.length - (k + 1))
      case measure => omega
      case rel => exact ⟨k + 1, by omega, rfl, by go_num, HBI.out⟩
    · obtain rfl : k = l.length := by omega
      have t1 : decide ((l.length : Int) < (l.length : Int)) = false := by rw [decide_eq_false_iff_not]; omega
      have HB := Lib.hid B
      clear B
      go_wp2_with fail
      go_ret
      exact ⟨rfl, HB.out⟩
end Go.Proofs.Ytglnofdncglmnaa
