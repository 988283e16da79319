/- Compare-and-swap of a cell at one instance: where the cell has the value, where it hasn't, and of no cell. -/
import Derived.Test.YtbjhmciokhmapaaCellIa
namespace Go.Proofs.Ytbjhmciokhmapaa
open Go.RowKit
set_option linter.unusedVariables false
set_option linter.unusedSimpArgs false
set_option maxRecDepth 100000

theorem casI_hit' (B : Nat) (v u x : Int) (n : Int) (w : World) (h : CellI w B v n) (hq : (v == u) = true) (h0 : 0 ≤ n) (h1 : n < 9223372036854775807) :
    Calls Try.prog 20 #[.pointer (some ⟨B, 0, none⟩), .int .i64 u, .int .i64 x] w (Goes 55 3 w B (.int .i64 x) (n + 1) (.bool true)) := by
  obtain ⟨p, hB, hp⟩ := h
  have hne := two_ne hB hp
  have hlB := block_lt hB
  have hlp := block_lt hp
  have HQ := Lib.hid hq
  clear hq
  go_enter Try.func20, Try.ntmps20
  go_wp2_with (go_at_call 23; refine (countI _ (.pointer (some ⟨p, 0, none⟩)) n _ ?_ h0 h1).mono ?_)
  · rw [Below.heap_alloc _ _ _ hlB]; exact hB
  rintro e w1 ⟨rfl, hw⟩
  have hB1 : w1.heap[B]? = some (.cells #[.pointer (some ⟨p, 0, none⟩), .int .i64 (n + 1)] 55 (0, 0)) := by
    rw [hw]; exact block_setCell (c := #[.pointer (some ⟨p, 0, none⟩), .int .i64 n]) (by rw [Below.heap_alloc _ _ _ hlB]; exact hB) _
  have hp1 : w1.heap[p]? = some (.cells #[.int .i64 v] 3 (0, 0)) := by
    rw [hw, Below.heap_setCell _ _ _ _ hne, Below.heap_alloc _ _ _ hlp]; exact hp
  have hq1 : w1.heap[w.heap.size]? = some (.cells #[.int .i64 x] 3 (0, 0)) := by
    rw [hw, Below.heap_setCell _ _ _ _ (by simp; omega)]; exact one_alloc _ _
  have hg : Hid (w.grownBy w1 (some B)) := by rw [hw]; exact grownBy_trans (World.grownBy_alloc _ _ _) (grownBy_store _ _ _ _)
  have hc1 : w1.cell? ⟨p, 0, none⟩ = some (.int .i64 v) := by rw [block_cell hp1]; rfl
  clear hw hB hp
  go_wp2
  refine wp_loop_rounds 1 ?_
  rw [rounds_succ]
  go_wp2_with (first | (go_at_call 24; refine (ploadI _ _ _ _ _ hB1 hp1).mono ?_; rintro e w' ⟨rfl, rfl⟩) | (go_at_call 31; refine (sameI_is _ _ _).mono ?_; rw [HQ.out]; rintro e w' ⟨rfl, rfl⟩) | (go_at_call 32; refine (pcasI _ _ _ _ _ _ _ hB1 hp1 hq1).mono ?_; rintro e w' ⟨rfl, rfl⟩))
  go_ret
  exact ⟨⟨rfl, ⟨_, block_setCell hB1 _, by rw [Below.heap_setCell _ _ _ _ (by simp; omega)]; exact hq1⟩, grownBy_trans hg.out (grownBy_store _ _ _ _)⟩, moves_new (block_setCell hB1 _) (Nat.le_refl _)⟩

theorem casI_hit (B : Nat) (v u x : Int) (n : Int) (w : World) (h : CellI w B v n) (hq : (v == u) = true) (h0 : 0 ≤ n) (h1 : n < 9223372036854775807) :
    Calls Try.prog 20 #[.pointer (some ⟨B, 0, none⟩), .int .i64 u, .int .i64 x] w (Comes 55 3 w B (.int .i64 x) (n + 1) (.bool true)) :=
  (casI_hit' B v u x n w h hq h0 h1).mono fun _ _ h => h.1

theorem casI_miss' (B : Nat) (v u x : Int) (n : Int) (w : World) (h : CellI w B v n) (hq : (v == u) = false) (h0 : 0 ≤ n) (h1 : n < 9223372036854775807) :
    Calls Try.prog 20 #[.pointer (some ⟨B, 0, none⟩), .int .i64 u, .int .i64 x] w (Goes 55 3 w B (.int .i64 v) (n + 1) (.bool false)) := by
  obtain ⟨p, hB, hp⟩ := h
  have hne := two_ne hB hp
  have hlB := block_lt hB
  have hlp := block_lt hp
  have HQ := Lib.hid hq
  clear hq
  go_enter Try.func20, Try.ntmps20
  go_wp2_with (go_at_call 23; refine (countI _ (.pointer (some ⟨p, 0, none⟩)) n _ ?_ h0 h1).mono ?_)
  · rw [Below.heap_alloc _ _ _ hlB]; exact hB
  rintro e w1 ⟨rfl, hw⟩
  have hB1 : w1.heap[B]? = some (.cells #[.pointer (some ⟨p, 0, none⟩), .int .i64 (n + 1)] 55 (0, 0)) := by
    rw [hw]; exact block_setCell (c := #[.pointer (some ⟨p, 0, none⟩), .int .i64 n]) (by rw [Below.heap_alloc _ _ _ hlB]; exact hB) _
  have hp1 : w1.heap[p]? = some (.cells #[.int .i64 v] 3 (0, 0)) := by
    rw [hw, Below.heap_setCell _ _ _ _ hne, Below.heap_alloc _ _ _ hlp]; exact hp
  have hg : Hid (w.grownBy w1 (some B)) := by rw [hw]; exact grownBy_trans (World.grownBy_alloc _ _ _) (grownBy_store _ _ _ _)
  have hm : Hid (Goes 55 3 w B (.int .i64 v) (n + 1) (.bool false) (.returned (.bool false)) w1) := ⟨⟨rfl, ⟨_, hB1, hp1⟩, hg.out⟩, moves_same hB hB1⟩
  have hc1 : w1.cell? ⟨p, 0, none⟩ = some (.int .i64 v) := by rw [block_cell hp1]; rfl
  clear hw hg hB hp
  go_wp2
  refine wp_loop_rounds 1 ?_
  rw [rounds_succ]
  go_wp2_with (first | (go_at_call 24; refine (ploadI _ _ _ _ _ hB1 hp1).mono ?_; rintro e w' ⟨rfl, rfl⟩) | (go_at_call 31; refine (sameI_is _ _ _).mono ?_; rw [HQ.out]; rintro e w' ⟨rfl, rfl⟩))
  go_ret
  exact hm.out

theorem casI_miss (B : Nat) (v u x : Int) (n : Int) (w : World) (h : CellI w B v n) (hq : (v == u) = false) (h0 : 0 ≤ n) (h1 : n < 9223372036854775807) :
    Calls Try.prog 20 #[.pointer (some ⟨B, 0, none⟩), .int .i64 u, .int .i64 x] w (Comes 55 3 w B (.int .i64 v) (n + 1) (.bool false)) :=
  (casI_miss' B v u x n w h hq h0 h1).mono fun _ _ h => h.1


theorem casI_none (u x : Int) (w : World) :
    Calls Try.prog 20 #[.pointer none, .int .i64 u, .int .i64 x] w fun e w' => e = .returned (.bool (0 == u)) ∧ w' = w.alloc (.cells #[.int .i64 x] 3) := by
  go_enter Try.func20, Try.ntmps20
  go_wp2_with (go_at_call 31; refine (sameI_is _ _ _).mono ?_; rintro e w' ⟨rfl, rfl⟩)
  go_ret
  exact ⟨rfl, rfl⟩
end Go.Proofs.Ytbjhmciokhmapaa
