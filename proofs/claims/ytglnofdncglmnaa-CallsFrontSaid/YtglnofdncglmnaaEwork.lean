/- The landed calls.go: Ahead, and what the three calls say. -/
import Derived.Test.YtglnofdncglmnaaEwof
import Derived.Test.YtglnofdncglmnaaEwsrt
namespace Go.Proofs.Ytglnofdncglmnaa
open Go.RowKit
set_option linter.unusedVariables false
set_option linter.unusedSimpArgs false
set_option maxRecDepth 100000

set_option maxHeartbeats 2000000 in
theorem ahead_is (a b : Cal) (w : World) : Calls Try.prog 16 #[a.val, b.val] w (Says w (aheadB a b)) := by
  unfold aheadB
  have hL1 := lies_box w a.cells 40
  have hL2 := lies_box (w.alloc (.cells a.cells.toArray 40)) b.cells 40
  obtain ⟨W, hW⟩ : ∃ W, (w.alloc (.cells a.cells.toArray 40)).alloc (.cells b.cells.toArray 40) = W := ⟨_, rfl⟩
  obtain ⟨p, hp⟩ : ∃ p, w.heap.size = p := ⟨_, rfl⟩
  have hB : Below w.heap.size w W := by rw [← hW]; exact below_alloc (boxed w _) (Nat.le_refl _)
  have f4 : W.cell? ⟨p, 4, none⟩ = some (.int .i64 a.to) := by
    have h := (Below.refl p (w.alloc (.cells a.cells.toArray 40)))
    obtain ⟨_, _, _, _, g4, _⟩ := cal_at hL1
    rw [← hW, World.cell?_alloc_lt _ _ _ (by rw [← hp]; simp)]
    rw [← hp]
    simpa using g4
  have f2 : W.cell? ⟨p + 1, 2, none⟩ = some (.int .i64 b.frm) := by
    obtain ⟨_, _, g2, _⟩ := cal_at hL2
    rw [← hW]
    rw [World.size_alloc] at g2
    rw [← hp]
    simpa using g2
  have HW := Lib.hid hW
  have HP := Lib.hid hp
  have HB := Lib.hid hB
  clear hL1 hL2 hW hp hB
  obtain ⟨d, hd⟩ : ∃ d, (a.to != -1) = d := ⟨_, rfl⟩
  obtain ⟨e, he⟩ : ∃ e, decide (a.to < b.frm) = e := ⟨_, rfl⟩
  rw [hd, he]
  unfold Cal.val
  go_enter Try.func16, Try.ntmps16
  go_upto_region 1 with fail
  change Code.wp _ _ _ _ ((w.alloc (.cells a.cells.toArray 40)).alloc (.cells b.cells.toArray 40))
  rw [HW.out, HP.out]
  clear HW
  cases d with
  | false =>
    go_wp2_with fail
    go_ret
    exact ⟨rfl, HB.out⟩
  | true =>
    go_wp2_with fail
    go_ret
    exact ⟨rfl, HB.out⟩
theorem words10 : Words10 := ⟨of_is, ahead_is, order_is⟩
end Go.Proofs.Ytglnofdncglmnaa
