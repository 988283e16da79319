/- The accesses of a cell at one instance: what each answers, and what the cell has then. -/
import Derived.Test.YtbjhmciokhmapaaCellI
namespace Go.Proofs.Ytbjhmciokhmapaa
open Go.RowKit
set_option linter.unusedVariables false
set_option linter.unusedSimpArgs false
set_option maxRecDepth 100000

abbrev CellI (w : World) (B : Nat) (v : Int) (n : Int) : Prop := Held 55 3 w B (.int .i64 v) n
/-- A cell that a call has made. -/
def MadeI (w : World) (v : Int) (e : Ending) (w' : World) : Prop := ∃ B, w.heap.size ≤ B ∧ e = .returned (.pointer (some ⟨B, 0, none⟩)) ∧ CellI w' B v 0 ∧ w.grownBy w' none

theorem newI (v : Int) (w : World) : Calls Try.prog 9 #[.int .i64 v] w (MadeI w v) := by
  go_enter Try.func9, Try.ntmps9
  go_wp2_with (go_at_call 21; refine (pstoreI _ _ (.int .i64 0) (.int .i64 v) (.pointer none) _ ?_ ?_).mono ?_)
  · exact (two_allocs _ _ _).1
  · exact (two_allocs _ _ _).2
  rintro e w1 ⟨rfl, hw⟩
  have hB : w1.heap[w.heap.size + 1]? = some (.cells #[.pointer (some ⟨w.heap.size, 0, none⟩), .int .i64 0] 55 (0, 0)) := by
    rw [hw]; exact block_setCell (c := #[.pointer none, .int .i64 0]) (two_allocs _ _ _).1 _
  have hp : w1.heap[w.heap.size]? = some (.cells #[.int .i64 v] 3 (0, 0)) := by
    rw [hw, Below.heap_setCell _ _ _ _ (by simp)]; exact (two_allocs _ _ _).2
  have hg : Hid (w.grownBy w1 none) := by
    rw [hw]
    exact grownBy_below ((((Below.refl _ _).alloc (Nat.le_refl _) _).alloc (by simp) _).setCell (by simp) _)
  have hm : Hid (MadeI w v (.returned (.pointer (some ⟨w.heap.size + 1, 0, none⟩))) w1) := ⟨_, by omega, rfl, ⟨_, hB, hp⟩, hg.out⟩
  clear hw hg hB hp
  go_wp2
  go_ret
  exact hm.out

theorem loadI' (B : Nat) (v : Int) (n : Int) (w : World) (h : CellI w B v n) (h0 : 0 ≤ n) (h1 : n < 9223372036854775807) :
    Calls Try.prog 14 #[.pointer (some ⟨B, 0, none⟩)] w (Goes 55 3 w B (.int .i64 v) (n + 1) (.int .i64 v)) := by
  obtain ⟨p, hB, hp⟩ := h
  have hne := two_ne hB hp
  go_enter Try.func14, Try.ntmps14
  go_wp2_with (go_at_call 23; refine (countI _ _ _ _ hB h0 h1).mono ?_)
  rintro e w1 ⟨rfl, hw⟩
  have hB1 : w1.heap[B]? = some (.cells #[.pointer (some ⟨p, 0, none⟩), .int .i64 (n + 1)] 55 (0, 0)) := by
    rw [hw]; exact block_setCell hB _
  have hp1 : w1.heap[p]? = some (.cells #[.int .i64 v] 3 (0, 0)) := by
    rw [hw, Below.heap_setCell _ _ _ _ hne]; exact hp
  have hg : Hid (w.grownBy w1 (some B)) := by rw [hw]; exact grownBy_store _ _ _ _
  have hm : Hid (Goes 55 3 w B (.int .i64 v) (n + 1) (.int .i64 v) (.returned (.int .i64 v)) w1) := ⟨⟨rfl, ⟨_, hB1, hp1⟩, hg.out⟩, moves_same hB hB1⟩
  have hc1 : w1.cell? ⟨p, 0, none⟩ = some (.int .i64 v) := by rw [block_cell hp1]; rfl
  clear hw hg hB hp
  go_wp2_with (go_at_call 24; refine (ploadI _ _ _ _ _ hB1 hp1).mono ?_; rintro e w' ⟨rfl, rfl⟩)
  go_ret
  exact hm.out

theorem loadI (B : Nat) (v : Int) (n : Int) (w : World) (h : CellI w B v n) (h0 : 0 ≤ n) (h1 : n < 9223372036854775807) :
    Calls Try.prog 14 #[.pointer (some ⟨B, 0, none⟩)] w (Comes 55 3 w B (.int .i64 v) (n + 1) (.int .i64 v)) :=
  (loadI' B v n w h h0 h1).mono fun _ _ h => h.1

theorem loadI_none (w : World) :
    Calls Try.prog 14 #[.pointer none] w fun e w' => e = .returned (.int .i64 0) ∧ w = w' := by
  go_enter Try.func14, Try.ntmps14
  go_wp2_with fail
  go_ret
  exact ⟨rfl, rfl⟩


theorem swapI' (B : Nat) (v x : Int) (n : Int) (w : World) (h : CellI w B v n) (h0 : 0 ≤ n) (h1 : n < 9223372036854775807) :
    Calls Try.prog 18 #[.pointer (some ⟨B, 0, none⟩), .int .i64 x] w (Goes 55 3 w B (.int .i64 x) (n + 1) (.int .i64 v)) := by
  obtain ⟨p, hB, hp⟩ := h
  have hne := two_ne hB hp
  have hlB := block_lt hB
  have hlp := block_lt hp
  go_enter Try.func18, Try.ntmps18
  go_wp2_with (go_at_call 23; refine (countI _ (.pointer (some ⟨p, 0, none⟩)) n _ ?_ h0 h1).mono ?_)
  · rw [Below.heap_alloc _ _ _ hlB]; exact hB
  rintro e w1 ⟨rfl, hw⟩
  have hB1 : w1.heap[B]? = some (.cells #[.pointer (some ⟨p, 0, none⟩), .int .i64 (n + 1)] 55 (0, 0)) := by
    rw [hw]; exact block_setCell (c := #[.pointer (some ⟨p, 0, none⟩), .int .i64 n]) (by rw [Below.heap_alloc _ _ _ hlB]; exact hB) _
  have hp1 : w1.heap[p]? = some (.cells #[.int .i64 v] 3 (0, 0)) := by
    rw [hw, Below.heap_setCell _ _ _ _ hne, Below.heap_alloc _ _ _ hlp]; exact hp
  have hq1 : w1.heap[w.heap.size]? = some (.cells #[.int .i64 x] 3 (0, 0)) := by
    rw [hw, Below.heap_setCell _ _ _ _ (by simp; omega)]; exact one_alloc _ _
  have hg : Hid (w.grownBy w1 (some B)) := by rw [hw]; exact grownBy_trans (World.grownBy_alloc _ _ _) (grownBy_store _ _ _ _)
  clear hw hB hp
  go_wp2_with (go_at_call 30; refine (pswapI _ _ _ _ _ _ _ hB1 hp1 hq1 hne).mono ?_)
  rintro e w2 ⟨rfl, hw⟩
  have hB2 : w2.heap[B]? = some (.cells #[.pointer (some ⟨w.heap.size, 0, none⟩), .int .i64 (n + 1)] 55 (0, 0)) := by
    rw [hw]; exact block_setCell hB1 _
  have hp2 : w2.heap[p]? = some (.cells #[.int .i64 v] 3 (0, 0)) := by
    rw [hw, Below.heap_setCell _ _ _ _ hne]; exact hp1
  have hq2 : w2.heap[w.heap.size]? = some (.cells #[.int .i64 x] 3 (0, 0)) := by
    rw [hw, Below.heap_setCell _ _ _ _ (by simp; omega)]; exact hq1
  have hg2 : Hid (w1.grownBy w2 (some B)) := by rw [hw]; exact grownBy_store _ _ _ _
  have hm : Hid (Goes 55 3 w B (.int .i64 x) (n + 1) (.int .i64 v) (.returned (.int .i64 v)) w2) := ⟨⟨rfl, ⟨_, hB2, hq2⟩, grownBy_trans hg.out hg2.out⟩, moves_new hB2 (Nat.le_refl _)⟩
  have hc2 : w2.cell? ⟨p, 0, none⟩ = some (.int .i64 v) := by rw [block_cell hp2]; rfl
  clear hw hg hg2 hB1 hp1 hq1 hB2 hp2 hq2
  go_wp2
  go_ret
  exact hm.out

theorem swapI (B : Nat) (v x : Int) (n : Int) (w : World) (h : CellI w B v n) (h0 : 0 ≤ n) (h1 : n < 9223372036854775807) :
    Calls Try.prog 18 #[.pointer (some ⟨B, 0, none⟩), .int .i64 x] w (Comes 55 3 w B (.int .i64 x) (n + 1) (.int .i64 v)) :=
  (swapI' B v x n w h h0 h1).mono fun _ _ h => h.1

theorem swapI_none (x : Int) (w : World) :
    Calls Try.prog 18 #[.pointer none, .int .i64 x] w fun e w' => e = .returned (.int .i64 0) ∧ w' = w.alloc (.cells #[.int .i64 x] 3) := by
  go_enter Try.func18, Try.ntmps18
  go_wp2_with fail
  go_ret
  exact ⟨rfl, rfl⟩

theorem storeI' (B : Nat) (v x : Int) (n : Int) (w : World) (h : CellI w B v n) (h0 : 0 ≤ n) (h1 : n < 9223372036854775807) :
    Calls Try.prog 19 #[.pointer (some ⟨B, 0, none⟩), .int .i64 x] w (Goes 55 3 w B (.int .i64 x) (n + 1) (.tuple #[])) := by
  go_enter Try.func19, Try.ntmps19
  go_wp2_with (go_at_call 18; refine (swapI' _ _ _ _ _ h h0 h1).mono ?_; rintro e w1 ⟨⟨rfl, h1, h2⟩, h3⟩)
  have hm : Hid (Goes 55 3 w B (.int .i64 x) (n + 1) (.tuple #[]) (.returned (.tuple #[])) w1) := ⟨⟨rfl, h1, h2⟩, h3⟩
  clear h1 h2 h3
  go_wp2
  go_end0
  exact hm.out

theorem storeI (B : Nat) (v x : Int) (n : Int) (w : World) (h : CellI w B v n) (h0 : 0 ≤ n) (h1 : n < 9223372036854775807) :
    Calls Try.prog 19 #[.pointer (some ⟨B, 0, none⟩), .int .i64 x] w (Comes 55 3 w B (.int .i64 x) (n + 1) (.tuple #[])) :=
  (storeI' B v x n w h h0 h1).mono fun _ _ h => h.1

theorem storeI_none (x : Int) (w : World) :
    Calls Try.prog 19 #[.pointer none, .int .i64 x] w fun e w' => e = .returned (.tuple #[]) ∧ w' = w.alloc (.cells #[.int .i64 x] 3) := by
  go_enter Try.func19, Try.ntmps19
  go_wp2_with (go_at_call 18; refine (swapI_none _ _).mono ?_; rintro e w1 ⟨rfl, rfl⟩)
  go_end0
  exact ⟨rfl, rfl⟩

theorem accessesI (B : Nat) (v : Int) (n : Int) (w : World) (h : CellI w B v n) :
    Calls Try.prog 12 #[.pointer (some ⟨B, 0, none⟩)] w fun e w' => e = .returned (.int .i64 n) ∧ w = w' := by
  obtain ⟨p, hB, hp⟩ := h
  have hld := run_call_load (P := Try.prog) Try.func34 (by kernel_rfl) (by kernel_rfl) (by kernel_rfl) .i64 (by kernel_rfl) (a := ⟨B, 1, none⟩) (x := n) (w := w) (by rw [block_cell hB]; rfl)
  clear hB hp
  go_enter Try.func12, Try.ntmps12
  go_wp2
  go_ret
  exact ⟨rfl, rfl⟩

theorem accessesI_none (w : World) :
    Calls Try.prog 12 #[.pointer none] w fun e w' => e = .returned (.int .i64 0) ∧ w = w' := by
  go_enter Try.func12, Try.ntmps12
  go_wp2
  go_ret
  exact ⟨rfl, rfl⟩
end Go.Proofs.Ytbjhmciokhmapaa
