/- Compare-and-swap of a cell at one instance: where the cell has the value, where it hasn't, and of no cell. -/
import Derived.Test.YtbjhmciokhmapaaCellSa
namespace Go.Proofs.Ytbjhmciokhmapaa
open Go.RowKit
set_option linter.unusedVariables false
set_option linter.unusedSimpArgs false
set_option maxRecDepth 100000

theorem casS_hit' (B : Nat) (v u x : ByteArray) (n : Int) (w : World) (h : CellS w B v n) (hq : (v.toList == u.toList) = true) (h0 : 0 ≤ n) (h1 : n < 9223372036854775807) :
    Calls Try.prog 16 #[.pointer (some ⟨B, 0, none⟩), .string u, .string x] w (Goes 64 9 w B (.string x) (n + 1) (.bool true)) := by
  obtain ⟨p, hB, hp⟩ := h
  have hne := two_ne hB hp
  have hlB := block_lt hB
  have hlp := block_lt hp
  have HQ := Lib.hid hq
  clear hq
  go_enter Try.func16, Try.ntmps16
  go_wp2_with (go_at_call 27; refine (countS _ (.pointer (some ⟨p, 0, none⟩)) n _ ?_ h0 h1).mono ?_)
  · rw [Below.heap_alloc _ _ _ hlB]; exact hB
  rintro e w1 ⟨rfl, hw⟩
  have hB1 : w1.heap[B]? = some (.cells #[.pointer (some ⟨p, 0, none⟩), .int .i64 (n + 1)] 64 (0, 0)) := by
    rw [hw]; exact block_setCell (c := #[.pointer (some ⟨p, 0, none⟩), .int .i64 n]) (by rw [Below.heap_alloc _ _ _ hlB]; exact hB) _
  have hp1 : w1.heap[p]? = some (.cells #[.string v] 9 (0, 0)) := by
    rw [hw, Below.heap_setCell _ _ _ _ hne, Below.heap_alloc _ _ _ hlp]; exact hp
  have hq1 : w1.heap[w.heap.size]? = some (.cells #[.string x] 9 (0, 0)) := by
    rw [hw, Below.heap_setCell _ _ _ _ (by simp; omega)]; exact one_alloc _ _
  have hg : Hid (w.grownBy w1 (some B)) := by rw [hw]; exact grownBy_trans (World.grownBy_alloc _ _ _) (grownBy_store _ _ _ _)
  have hc1 : w1.cell? ⟨p, 0, none⟩ = some (.string v) := by rw [block_cell hp1]; rfl
  clear hw hB hp
  go_wp2
  refine wp_loop_rounds 1 ?_
  rw [rounds_succ]
  go_wp2_with (first | (go_at_call 28; refine (ploadS _ _ _ _ _ hB1 hp1).mono ?_; rintro e w' ⟨rfl, rfl⟩) | (go_at_call 26; refine (sameS_is _ _ _).mono ?_; rw [HQ.out]; rintro e w' ⟨rfl, rfl⟩) | (go_at_call 29; refine (pcasS _ _ _ _ _ _ _ hB1 hp1 hq1).mono ?_; rintro e w' ⟨rfl, rfl⟩))
  go_ret
  exact ⟨⟨rfl, ⟨_, block_setCell hB1 _, by rw [Below.heap_setCell _ _ _ _ (by simp; omega)]; exact hq1⟩, grownBy_trans hg.out (grownBy_store _ _ _ _)⟩, moves_new (block_setCell hB1 _) (Nat.le_refl _)⟩

theorem casS_hit (B : Nat) (v u x : ByteArray) (n : Int) (w : World) (h : CellS w B v n) (hq : (v.toList == u.toList) = true) (h0 : 0 ≤ n) (h1 : n < 9223372036854775807) :
    Calls Try.prog 16 #[.pointer (some ⟨B, 0, none⟩), .string u, .string x] w (Comes 64 9 w B (.string x) (n + 1) (.bool true)) :=
  (casS_hit' B v u x n w h hq h0 h1).mono fun _ _ h => h.1

theorem casS_miss' (B : Nat) (v u x : ByteArray) (n : Int) (w : World) (h : CellS w B v n) (hq : (v.toList == u.toList) = false) (h0 : 0 ≤ n) (h1 : n < 9223372036854775807) :
    Calls Try.prog 16 #[.pointer (some ⟨B, 0, none⟩), .string u, .string x] w (Goes 64 9 w B (.string v) (n + 1) (.bool false)) := by
  obtain ⟨p, hB, hp⟩ := h
  have hne := two_ne hB hp
  have hlB := block_lt hB
  have hlp := block_lt hp
  have HQ := Lib.hid hq
  clear hq
  go_enter Try.func16, Try.ntmps16
  go_wp2_with (go_at_call 27; refine (countS _ (.pointer (some ⟨p, 0, none⟩)) n _ ?_ h0 h1).mono ?_)
  · rw [Below.heap_alloc _ _ _ hlB]; exact hB
  rintro e w1 ⟨rfl, hw⟩
  have hB1 : w1.heap[B]? = some (.cells #[.pointer (some ⟨p, 0, none⟩), .int .i64 (n + 1)] 64 (0, 0)) := by
    rw [hw]; exact block_setCell (c := #[.pointer (some ⟨p, 0, none⟩), .int .i64 n]) (by rw [Below.heap_alloc _ _ _ hlB]; exact hB) _
  have hp1 : w1.heap[p]? = some (.cells #[.string v] 9 (0, 0)) := by
    rw [hw, Below.heap_setCell _ _ _ _ hne, Below.heap_alloc _ _ _ hlp]; exact hp
  have hg : Hid (w.grownBy w1 (some B)) := by rw [hw]; exact grownBy_trans (World.grownBy_alloc _ _ _) (grownBy_store _ _ _ _)
  have hm : Hid (Goes 64 9 w B (.string v) (n + 1) (.bool false) (.returned (.bool false)) w1) := ⟨⟨rfl, ⟨_, hB1, hp1⟩, hg.out⟩, moves_same hB hB1⟩
  have hc1 : w1.cell? ⟨p, 0, none⟩ = some (.string v) := by rw [block_cell hp1]; rfl
  clear hw hg hB hp
  go_wp2
  refine wp_loop_rounds 1 ?_
  rw [rounds_succ]
  go_wp2_with (first | (go_at_call 28; refine (ploadS _ _ _ _ _ hB1 hp1).mono ?_; rintro e w' ⟨rfl, rfl⟩) | (go_at_call 26; refine (sameS_is _ _ _).mono ?_; rw [HQ.out]; rintro e w' ⟨rfl, rfl⟩))
  go_ret
  exact hm.out

theorem casS_miss (B : Nat) (v u x : ByteArray) (n : Int) (w : World) (h : CellS w B v n) (hq : (v.toList == u.toList) = false) (h0 : 0 ≤ n) (h1 : n < 9223372036854775807) :
    Calls Try.prog 16 #[.pointer (some ⟨B, 0, none⟩), .string u, .string x] w (Comes 64 9 w B (.string v) (n + 1) (.bool false)) :=
  (casS_miss' B v u x n w h hq h0 h1).mono fun _ _ h => h.1

end Go.Proofs.Ytbjhmciokhmapaa
