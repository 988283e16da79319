/- The law's own three rules, and which of them is the best one. -/
import Derived.Test.YtnjacobimndnbaaRbest
namespace Go.Proofs.Ytnjacobimndnbaa
open Go.RowKit
set_option linter.unusedVariables false
set_option linter.unusedSimpArgs false
set_option maxRecDepth 100000

def tStar : ByteArray := ⟨#[42]⟩
def tStarB : ByteArray := ⟨#[42, 46, 98]⟩
def tAB : ByteArray := ⟨#[97, 46, 98]⟩
def tSl : ByteArray := ⟨#[47]⟩
def tSlA : ByteArray := ⟨#[47, 97]⟩
def plainL : List Rl := [⟨0, tStar, tSl, 0⟩, ⟨0, tStarB, tSl, 0⟩, ⟨0, tStar, tSlA, 1⟩, ⟨1, tAB, tSl, 0⟩]
theorem len4rl (l : List Rl) : ∀ r ∈ l.map Rl.cells, r.length = 4 := fun r hr => by
  obtain ⟨x, _, rfl⟩ := List.mem_map.1 hr
  rfl
theorem plain_short : ∀ r ∈ plainL, r.path.size ≤ 2000 := by
  intro r hr
  simp only [plainL, List.mem_cons, List.not_mem_nil, or_false] at hr
  rcases hr with rfl | rfl | rfl | rfl <;> exact Nat.le_of_ble_eq_true rfl

def PlainIn (n : Nat) (W : World) : Prop := W.heap[n]? = some (.cells (plainL.map Rl.cells).flatten.toArray 31 (0, 0))
theorem PlainIn.rules {n : Nat} {W : World} (h : PlainIn n W) : RulesIn W W.heap.size (some ⟨n, 0, none⟩) 4 plainL := ⟨rows4_block (len4rl _) h, Nat.le_refl _, by simp [maxLen]⟩
theorem PlainIn.below {n : Nat} {W W' : World} (h : PlainIn n W) (hb : Below W.heap.size W W') : PlainIn n W' := (hb.block n (block_lt h)).trans h
theorem PlainIn.first {n : Nat} {W : World} (h : PlainIn n W) : Four W ⟨n, 0, none⟩ (.int .i64 0) (.string tStar) (.string tSl) (.int .i64 0) :=
  ⟨by rw [block_cell h]; rfl, by rw [block_cell h]; rfl, by rw [block_cell h]; rfl, by rw [block_cell h]; rfl⟩
def PlainTell (w : World) (e : Ending) (w' : World) : Prop := ∃ n, e = .returned (.slice (some ⟨n, 0, none⟩) 4 4) ∧ PlainIn n w' ∧ Below w.heap.size w w'
theorem rplain_is (w : World) : Calls Try.prog 19 #[] w (PlainTell w) := by
  go_enter Try.func19, Try.ntmps19
  go_wp2
  exact bodyPost_ret (v := .slice (some ⟨w.heap.size, 0, none⟩) 4 4) (by simp [results, Try.results19, go_sem]) rfl ⟨w.heap.size, rfl, one_alloc _ _, boxed w _⟩

/-- A best rule of the plain ones, asked of the program. -/
theorem plain_best {n : Nat} {W : World} (h : PlainIn n W) (li : Int) (ho pa : ByteArray) (hh : ho.size ≤ 2000) (a b : Int) (ha : numO (bestO plainL (fitsB li ho pa)) = a) (hb : errO (bestO plainL (fitsB li ho pa)) = b) :
    Calls Try.prog 9 #[.slice (some ⟨n, 0, none⟩) 4 4, .int .i64 li, .string ho, .string pa] W (Tells2 W (a, b)) :=
  (best_calls (some ⟨n, 0, none⟩) 4 plainL li ho pa W h.rules hh plain_short).mono fun _ _ t => t.of (by rw [ha, hb])

def tX : ByteArray := ⟨#[120]⟩
def tB : ByteArray := ⟨#[98]⟩
def tSlB : ByteArray := ⟨#[47, 98]⟩
def tSlAC : ByteArray := ⟨#[47, 97, 47, 99]⟩
theorem q1 : numO (bestO plainL (fitsB 0 tX tSlB)) = 0 ∧ errO (bestO plainL (fitsB 0 tX tSlB)) = 0 := ⟨by kernel_rfl, by kernel_rfl⟩
theorem q2 : numO (bestO plainL (fitsB 0 tX tSlAC)) = 2 ∧ errO (bestO plainL (fitsB 0 tX tSlAC)) = 0 := ⟨by kernel_rfl, by kernel_rfl⟩
theorem q3 : numO (bestO plainL (fitsB 0 tAB tSlA)) = 1 ∧ errO (bestO plainL (fitsB 0 tAB tSlA)) = 0 := ⟨by kernel_rfl, by kernel_rfl⟩
theorem q4 : numO (bestO plainL (fitsB 1 tAB tSlA)) = 3 ∧ errO (bestO plainL (fitsB 1 tAB tSlA)) = 0 := ⟨by kernel_rfl, by kernel_rfl⟩
theorem q5 : numO (bestO plainL (fitsB 1 tB tSlA)) = 0 ∧ errO (bestO plainL (fitsB 1 tB tSlA)) = 5 := ⟨by kernel_rfl, by kernel_rfl⟩
theorem q6 : fitsB 0 tX tSl ⟨0, tStar, tSl, 0⟩ = true := by kernel_rfl
theorem q7 : fitsB 1 tX tSl ⟨0, tStar, tSl, 0⟩ = false := by kernel_rfl

set_option maxHeartbeats 2000000 in
theorem chosen_is (w : World) : Calls Try.prog 11 #[] w (Says w true) := by
  go_enter Try.func11, Try.ntmps11
  go_wp2_with fail
  refine (rplain_is w).mono ?_
  rintro e W1 ⟨n, rfl, h1, B1⟩
  have hc := plain_best h1 0 tX tSlB (by decide) 0 0 q1.1 q1.2
  have H1 := Lib.hid h1
  clear h1
  unfold tX tSlB at hc
  go_wp2_with fail
  refine hc.mono ?_
  rintro e W2 ⟨rfl, kk⟩
  have h2 := H1.out.below kk
  have B2 := below_next B1 kk
  clear hc kk H1 B1
  have hc := plain_best h2 0 tX tSlAC (by decide) 2 0 q2.1 q2.2
  have H2 := Lib.hid h2
  clear h2
  unfold tX tSlAC at hc
  go_wp2_with fail
  refine hc.mono ?_
  rintro e W3 ⟨rfl, kk⟩
  have h3 := H2.out.below kk
  have B3 := below_next B2 kk
  clear hc kk H2 B2
  have hc := plain_best h3 0 tAB tSlA (by decide) 1 0 q3.1 q3.2
  have H3 := Lib.hid h3
  clear h3
  unfold tAB tSlA at hc
  go_wp2_with fail
  refine hc.mono ?_
  rintro e W4 ⟨rfl, kk⟩
  have h4 := H3.out.below kk
  have B4 := below_next B3 kk
  clear hc kk H3 B3
  have hc := plain_best h4 1 tAB tSlA (by decide) 3 0 q4.1 q4.2
  have H4 := Lib.hid h4
  clear h4
  unfold tAB tSlA at hc
  go_wp2_with fail
  refine hc.mono ?_
  rintro e W5 ⟨rfl, kk⟩
  have h5 := H4.out.below kk
  have B5 := below_next B4 kk
  clear hc kk H4 B4
  have hc := plain_best h5 1 tB tSlA (by decide) 0 5 q5.1 q5.2
  have H5 := Lib.hid h5
  clear h5
  unfold tB tSlA at hc
  go_wp2_with fail
  refine hc.mono ?_
  rintro e W6 ⟨rfl, kk⟩
  have h6 := H5.out.below kk
  have B6 := below_next B5 kk
  clear hc kk H5 B5
  obtain ⟨f0, f1, f2, f3⟩ := h6.first
  have hc := fits_is ⟨0, tStar, tSl, 0⟩ 0 tX tSl W6 (by decide) (by decide)
  rw [q6] at hc
  have H6 := Lib.hid h6
  clear h6
  unfold Rl.val at hc
  unfold tStar tSl tX at hc
  unfold tStar at f1
  unfold tSl at f2
  simp only at hc
  go_wp2_with fail
  refine hc.mono ?_
  rintro e W7 ⟨rfl, kk⟩
  have h7 := H6.out.below kk
  have B7 := below_next B6 kk
  clear hc kk H6 B6 f0 f1 f2 f3
  obtain ⟨f0, f1, f2, f3⟩ := h7.first
  have hc := fits_is ⟨0, tStar, tSl, 0⟩ 1 tX tSl W7 (by decide) (by decide)
  rw [q7] at hc
  clear h7
  unfold Rl.val at hc
  unfold tStar tSl tX at hc
  unfold tStar at f1
  unfold tSl at f2
  simp only at hc
  go_wp2_with fail
  refine hc.mono ?_
  rintro e W8 ⟨rfl, kk⟩
  have B8 := below_next B7 kk
  clear hc kk f0 f1 f2 f3
  go_wp2_with fail
  go_ret
  exact ⟨rfl, B8⟩
end Go.Proofs.Ytnjacobimndnbaa
