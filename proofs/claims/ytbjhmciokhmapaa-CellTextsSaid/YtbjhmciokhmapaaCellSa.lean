/- The accesses of a cell at one instance: what each answers, and what the cell has then. -/
import Derived.Test.YtbjhmciokhmapaaCellS
namespace Go.Proofs.Ytbjhmciokhmapaa
open Go.RowKit
set_option linter.unusedVariables false
set_option linter.unusedSimpArgs false
set_option maxRecDepth 100000

abbrev CellS (w : World) (B : Nat) (v : ByteArray) (n : Int) : Prop := Held 64 9 w B (.string v) n
/-- A cell that a call has made. -/
def MadeS (w : World) (v : ByteArray) (e : Ending) (w' : World) : Prop := ∃ B, w.heap.size ≤ B ∧ e = .returned (.pointer (some ⟨B, 0, none⟩)) ∧ CellS w' B v 0 ∧ w.grownBy w' none

theorem newS (v : ByteArray) (w : World) : Calls Try.prog 15 #[.string v] w (MadeS w v) := by
  go_enter Try.func15, Try.ntmps15
  go_wp2_with (go_at_call 25; refine (pstoreS _ _ (.int .i64 0) (.string v) (.pointer none) _ ?_ ?_).mono ?_)
  · exact (two_allocs _ _ _).1
  · exact (two_allocs _ _ _).2
  rintro e w1 ⟨rfl, hw⟩
  have hB : w1.heap[w.heap.size + 1]? = some (.cells #[.pointer (some ⟨w.heap.size, 0, none⟩), .int .i64 0] 64 (0, 0)) := by
    rw [hw]; exact block_setCell (c := #[.pointer none, .int .i64 0]) (two_allocs _ _ _).1 _
  have hp : w1.heap[w.heap.size]? = some (.cells #[.string v] 9 (0, 0)) := by
    rw [hw, Below.heap_setCell _ _ _ _ (by simp)]; exact (two_allocs _ _ _).2
  have hg : Hid (w.grownBy w1 none) := by
    rw [hw]
    exact grownBy_below ((((Below.refl _ _).alloc (Nat.le_refl _) _).alloc (by simp) _).setCell (by simp) _)
  have hm : Hid (MadeS w v (.returned (.pointer (some ⟨w.heap.size + 1, 0, none⟩))) w1) := ⟨_, by omega, rfl, ⟨_, hB, hp⟩, hg.out⟩
  clear hw hg hB hp
  go_wp2
  go_ret
  exact hm.out

theorem loadS' (B : Nat) (v : ByteArray) (n : Int) (w : World) (h : CellS w B v n) (h0 : 0 ≤ n) (h1 : n < 9223372036854775807) :
    Calls Try.prog 17 #[.pointer (some ⟨B, 0, none⟩)] w (Goes 64 9 w B (.string v) (n + 1) (.string v)) := by
  obtain ⟨p, hB, hp⟩ := h
  have hne := two_ne hB hp
  go_enter Try.func17, Try.ntmps17
  go_wp2_with (go_at_call 27; refine (countS _ _ _ _ hB h0 h1).mono ?_)
  rintro e w1 ⟨rfl, hw⟩
  have hB1 : w1.heap[B]? = some (.cells #[.pointer (some ⟨p, 0, none⟩), .int .i64 (n + 1)] 64 (0, 0)) := by
    rw [hw]; exact block_setCell hB _
  have hp1 : w1.heap[p]? = some (.cells #[.string v] 9 (0, 0)) := by
    rw [hw, Below.heap_setCell _ _ _ _ hne]; exact hp
  have hg : Hid (w.grownBy w1 (some B)) := by rw [hw]; exact grownBy_store _ _ _ _
  have hm : Hid (Goes 64 9 w B (.string v) (n + 1) (.string v) (.returned (.string v)) w1) := ⟨⟨rfl, ⟨_, hB1, hp1⟩, hg.out⟩, moves_same hB hB1⟩
  have hc1 : w1.cell? ⟨p, 0, none⟩ = some (.string v) := by rw [block_cell hp1]; rfl
  clear hw hg hB hp
  go_wp2_with (go_at_call 28; refine (ploadS _ _ _ _ _ hB1 hp1).mono ?_; rintro e w' ⟨rfl, rfl⟩)
  go_ret
  exact hm.out

theorem loadS (B : Nat) (v : ByteArray) (n : Int) (w : World) (h : CellS w B v n) (h0 : 0 ≤ n) (h1 : n < 9223372036854775807) :
    Calls Try.prog 17 #[.pointer (some ⟨B, 0, none⟩)] w (Comes 64 9 w B (.string v) (n + 1) (.string v)) :=
  (loadS' B v n w h h0 h1).mono fun _ _ h => h.1

theorem loadS_none (w : World) :
    Calls Try.prog 17 #[.pointer none] w fun e w' => e = .returned (.string ⟨#[]⟩) ∧ w = w' := by
  go_enter Try.func17, Try.ntmps17
  go_wp2_with fail
  go_ret
  exact ⟨rfl, rfl⟩

end Go.Proofs.Ytbjhmciokhmapaa
