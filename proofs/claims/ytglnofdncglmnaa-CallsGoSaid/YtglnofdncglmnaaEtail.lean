/- A call of the row is marked by the event in the box: which cells are read, which are written, what the row holds behind. -/
import Derived.Test.YtglnofdncglmnaaErow
namespace Go.Proofs.Ytglnofdncglmnaa
open Go.RowKit
set_option linter.unusedVariables false
set_option linter.unusedSimpArgs false

def Cal.pt (y : Cal) (k : Nat) : Cal := ⟨y.thread, y.op, y.frm, (k : Int), y.to, y.ans⟩
def Cal.en (y : Cal) (k : Nat) : Cal := ⟨y.thread, y.op, y.frm, y.point, (k : Int), y.ans⟩
def Cal.an (y : Cal) (a : An) : Cal := ⟨y.thread, y.op, y.frm, y.point, y.to, a⟩
section
variable {w W : World} {g n cap xb j k : Nat} {cl : List Cal} {x : Ev} {y : Cal}
theorem put_pt (S : OutsN 18 40 w W (.slice (some ⟨g, 0, none⟩) n cap) (cl.map Cal.cells)) (HB : BoxAt 43 W xb x.cells) (hj : j < cl.length) (hy : cl[j] = y) :
    OutsN 18 40 w (W.setCell ⟨g, j * 18 + 3, none⟩ (.int .i64 (k : Int))) (.slice (some ⟨g, 0, none⟩) n cap) ((cl.set j (y.pt k)).map Cal.cells) ∧ BoxAt 43 (W.setCell ⟨g, j * 18 + 3, none⟩ (.int .i64 (k : Int))) xb x.cells :=
  tail_put S HB hj 3 [.int .i64 (k : Int)] (by simp) (y.pt k) (by rw [hy]; rfl)
theorem put_en (S : OutsN 18 40 w W (.slice (some ⟨g, 0, none⟩) n cap) (cl.map Cal.cells)) (HB : BoxAt 43 W xb x.cells) (hj : j < cl.length) (hy : cl[j] = y) :
    OutsN 18 40 w (W.setCell ⟨g, j * 18 + 4, none⟩ (.int .i64 (k : Int))) (.slice (some ⟨g, 0, none⟩) n cap) ((cl.set j (y.en k)).map Cal.cells) ∧ BoxAt 43 (W.setCell ⟨g, j * 18 + 4, none⟩ (.int .i64 (k : Int))) xb x.cells :=
  tail_put S HB hj 4 [.int .i64 (k : Int)] (by simp) (y.en k) (by rw [hy]; rfl)
theorem put_an (S : OutsN 18 40 w W (.slice (some ⟨g, 0, none⟩) n cap) (cl.map Cal.cells)) (HB : BoxAt 43 W xb x.cells) (hj : j < cl.length) (hy : cl[j] = y) :
    OutsN 18 40 w (W.setCells g (j * 18 + 5) x.ans.cells) (.slice (some ⟨g, 0, none⟩) n cap) ((cl.set j (y.an x.ans)).map Cal.cells) :=
  (tail_put S HB hj 5 x.ans.cells (by simp [An.cells]) (y.an x.ans) (by rw [hy]; rfl)).1
theorem mark_ff (h8 : x.point = false) (h9 : x.done = false) : y.mark k x = y := by unfold Cal.mark; rw [h8, h9]; rfl
theorem mark_tf (h8 : x.point = true) (h9 : x.done = false) : y.mark k x = y.pt k := by unfold Cal.mark; rw [h8, h9]; rfl
theorem mark_ft (h8 : x.point = false) (h9 : x.done = true) : y.mark k x = (y.en k).an x.ans := by unfold Cal.mark; rw [h8, h9]; rfl
theorem mark_tt (h8 : x.point = true) (h9 : x.done = true) : y.mark k x = ((y.pt k).en k).an x.ans := by unfold Cal.mark; rw [h8, h9]; rfl

theorem tail_ff (S : OutsN 18 40 w W (.slice (some ⟨g, 0, none⟩) n cap) (cl.map Cal.cells)) (HB : BoxAt 43 W xb x.cells) (hj : j < cl.length) (hy : cl[j] = y) (h8 : x.point = false) (h9 : x.done = false) :
    W.cell? ⟨g, j * 18 + 4, none⟩ = some (.int .i64 y.to) ∧ W.cell? ⟨xb, 8, none⟩ = some (.bool false) ∧ W.cell? ⟨xb, 9, none⟩ = some (.bool false) ∧
    OutsN 18 40 w W (.slice (some ⟨g, 0, none⟩) n cap) ((cl.set j (y.mark k x)).map Cal.cells) := by
  obtain ⟨c3, c4, z3, z4, th, f8, f9, r10⟩ := tail_at S HB hj
  rw [h8] at f8
  rw [h9] at f9
  rw [hy] at c4
  exact ⟨c4, f8, f9, by rw [mark_ff h8 h9, ← hy, List.set_getElem_self]; exact S⟩
theorem tail_tf (S : OutsN 18 40 w W (.slice (some ⟨g, 0, none⟩) n cap) (cl.map Cal.cells)) (HB : BoxAt 43 W xb x.cells) (hj : j < cl.length) (hy : cl[j] = y) (h8 : x.point = true) (h9 : x.done = false) :
    W.cell? ⟨g, j * 18 + 4, none⟩ = some (.int .i64 y.to) ∧ W.cell? ⟨xb, 8, none⟩ = some (.bool true) ∧ W.cell? ⟨g, j * 18 + 3, none⟩ = some (.int .i64 y.point) ∧ W.frozen? ⟨g, j * 18 + 3, none⟩ = false ∧ (W.setCell ⟨g, j * 18 + 3, none⟩ (.int .i64 (k : Int))).cell? ⟨xb, 9, none⟩ = some (.bool false) ∧
    OutsN 18 40 w (W.setCell ⟨g, j * 18 + 3, none⟩ (.int .i64 (k : Int))) (.slice (some ⟨g, 0, none⟩) n cap) ((cl.set j (y.mark k x)).map Cal.cells) := by
  obtain ⟨c3, c4, z3, z4, th, f8, f9, r10⟩ := tail_at S HB hj
  obtain ⟨S3, HB3⟩ := put_pt (k := k) S HB hj hy
  obtain ⟨_, _, _, _, _, _, g9, _⟩ := tail_at S3 HB3 (j := j) (by rw [List.length_set]; exact hj)
  rw [h8] at f8
  rw [h9] at g9
  rw [hy] at c4 c3
  exact ⟨c4, f8, c3, z3, g9, by rw [mark_tf h8 h9]; exact S3⟩
theorem tail_ft (S : OutsN 18 40 w W (.slice (some ⟨g, 0, none⟩) n cap) (cl.map Cal.cells)) (HB : BoxAt 43 W xb x.cells) (hj : j < cl.length) (hy : cl[j] = y) (h8 : x.point = false) (h9 : x.done = true) :
    W.cell? ⟨g, j * 18 + 4, none⟩ = some (.int .i64 y.to) ∧ W.cell? ⟨xb, 8, none⟩ = some (.bool false) ∧ W.cell? ⟨xb, 9, none⟩ = some (.bool true) ∧ W.frozen? ⟨g, j * 18 + 4, none⟩ = false ∧
    (W.setCell ⟨g, j * 18 + 4, none⟩ (.int .i64 (k : Int))).there g (j * 18 + 5) 13 ∧ (W.setCell ⟨g, j * 18 + 4, none⟩ (.int .i64 (k : Int))).rangeAt xb 10 x.ans.cells ∧
    OutsN 18 40 w ((W.setCell ⟨g, j * 18 + 4, none⟩ (.int .i64 (k : Int))).setCells g (j * 18 + 5) x.ans.cells) (.slice (some ⟨g, 0, none⟩) n cap) ((cl.set j (y.mark k x)).map Cal.cells) := by
  obtain ⟨c3, c4, z3, z4, th, f8, f9, r10⟩ := tail_at S HB hj
  obtain ⟨S4, HB4⟩ := put_en (k := k) S HB hj hy
  have hj4 : j < (cl.set j (y.en k)).length := by rw [List.length_set]; exact hj
  obtain ⟨_, _, _, _, th4, _, _, p10⟩ := tail_at S4 HB4 hj4
  have S5 := put_an S4 HB4 hj4 (List.getElem_set_self ..)
  rw [List.set_set] at S5
  rw [h8] at f8
  rw [h9] at f9
  rw [hy] at c4
  exact ⟨c4, f8, f9, z4, th4, p10, by rw [mark_ft h8 h9]; exact S5⟩
theorem tail_tt (S : OutsN 18 40 w W (.slice (some ⟨g, 0, none⟩) n cap) (cl.map Cal.cells)) (HB : BoxAt 43 W xb x.cells) (hj : j < cl.length) (hy : cl[j] = y) (h8 : x.point = true) (h9 : x.done = true) :
    W.cell? ⟨g, j * 18 + 4, none⟩ = some (.int .i64 y.to) ∧ W.cell? ⟨xb, 8, none⟩ = some (.bool true) ∧ W.cell? ⟨g, j * 18 + 3, none⟩ = some (.int .i64 y.point) ∧ W.frozen? ⟨g, j * 18 + 3, none⟩ = false ∧
    (W.setCell ⟨g, j * 18 + 3, none⟩ (.int .i64 (k : Int))).cell? ⟨xb, 9, none⟩ = some (.bool true) ∧ (W.setCell ⟨g, j * 18 + 3, none⟩ (.int .i64 (k : Int))).cell? ⟨g, j * 18 + 4, none⟩ = some (.int .i64 y.to) ∧ (W.setCell ⟨g, j * 18 + 3, none⟩ (.int .i64 (k : Int))).frozen? ⟨g, j * 18 + 4, none⟩ = false ∧
    ((W.setCell ⟨g, j * 18 + 3, none⟩ (.int .i64 (k : Int))).setCell ⟨g, j * 18 + 4, none⟩ (.int .i64 (k : Int))).there g (j * 18 + 5) 13 ∧ ((W.setCell ⟨g, j * 18 + 3, none⟩ (.int .i64 (k : Int))).setCell ⟨g, j * 18 + 4, none⟩ (.int .i64 (k : Int))).rangeAt xb 10 x.ans.cells ∧
    OutsN 18 40 w (((W.setCell ⟨g, j * 18 + 3, none⟩ (.int .i64 (k : Int))).setCell ⟨g, j * 18 + 4, none⟩ (.int .i64 (k : Int))).setCells g (j * 18 + 5) x.ans.cells) (.slice (some ⟨g, 0, none⟩) n cap) ((cl.set j (y.mark k x)).map Cal.cells) := by
  obtain ⟨c3, c4, z3, z4, th, f8, f9, r10⟩ := tail_at S HB hj
  obtain ⟨S3, HB3⟩ := put_pt (k := k) S HB hj hy
  have hj3 : j < (cl.set j (y.pt k)).length := by rw [List.length_set]; exact hj
  obtain ⟨_, d4, _, y4, _, _, g9, _⟩ := tail_at S3 HB3 hj3
  obtain ⟨S4, HB4⟩ := put_en (k := k) S3 HB3 hj3 (List.getElem_set_self ..)
  rw [List.set_set] at S4
  have hj4 : j < (cl.set j ((y.pt k).en k)).length := by rw [List.length_set]; exact hj
  obtain ⟨_, _, _, _, th4, _, _, p10⟩ := tail_at S4 HB4 hj4
  have S5 := put_an S4 HB4 hj4 (List.getElem_set_self ..)
  rw [List.set_set] at S5
  rw [List.getElem_set_self] at d4
  rw [h8] at f8
  rw [h9] at g9
  rw [hy] at c4 c3
  exact ⟨c4, f8, c3, z3, g9, d4, y4, th4, p10, by rw [mark_tt h8 h9]; exact S5⟩
end
end Go.Proofs.Ytglnofdncglmnaa
