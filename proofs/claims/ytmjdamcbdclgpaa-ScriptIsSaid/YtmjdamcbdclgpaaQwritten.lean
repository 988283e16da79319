/- The law's own answers of layer 8: the walk of written, over what the program's four calls say. -/
import Derived.Test.YtmjdamcbdclgpaaQplain
import Derived.Test.YtmjdamcbdclgpaaM1
namespace Go.Proofs.Ytmjdamcbdclgpaa
open Go.RowKit
set_option linter.unusedVariables false
set_option linter.unusedSimpArgs false
set_option maxRecDepth 100000

/-- Where all lies: the script, its box, the bytes that were written, the numbers that were read. -/
structure WT (w W : World) (b1 n1 n2 nr nc nh no nt np : Nat) (A1 A2 : Option Addr) : Prop where
  B : Below w.heap.size w W
  Q : QLies W n1 n2 nr nc nh no nt np
  bx : W.heap[b1]? = some (.cells #[.slice (some ⟨n1, 0, none⟩) 1 1, .slice (some ⟨nr, 0, none⟩) 1 1, .slice (some ⟨nc, 0, none⟩) 1 1, .slice (some ⟨nt, 0, none⟩) 1 1, .slice (some ⟨np, 0, none⟩) 2 2] 30 (0, 0))
  r1 : Reads W W.heap.size A1 ([(0 : Int), 172, 2].map (Value.int .u8))
  r2 : Reads W W.heap.size A2 ([(0 : Int), 300].map (Value.int .i64))
section
variable {w W W' : World} {b1 n1 n2 nr nc nh no nt np : Nat} {A1 A2 : Option Addr}
theorem WT.below (h : WT w W b1 n1 n2 nr nc nh no nt np A1 A2) (hb : Below W.heap.size W W') : WT w W' b1 n1 n2 nr nc nh no nt np A1 A2 :=
  ⟨below_next h.B hb, h.Q.below hb, (hb.block _ (block_lt h.bx)).trans h.bx, (h.r1.below hb).more hb.size, (h.r2.below hb).more hb.size⟩
theorem WT.box (h : WT w W b1 n1 n2 nr nc nh no nt np A1 A2) : W.cell? ⟨b1, 0, none⟩ = some (.slice (some ⟨n1, 0, none⟩) 1 1) ∧ W.cell? ⟨b1, 1, none⟩ = some (.slice (some ⟨nr, 0, none⟩) 1 1) ∧ W.cell? ⟨b1, 2, none⟩ = some (.slice (some ⟨nc, 0, none⟩) 1 1) ∧ W.cell? ⟨b1, 3, none⟩ = some (.slice (some ⟨nt, 0, none⟩) 1 1) ∧ W.cell? ⟨b1, 4, none⟩ = some (.slice (some ⟨np, 0, none⟩) 2 2) :=
  ⟨by rw [block_cell h.bx]; rfl, by rw [block_cell h.bx]; rfl, by rw [block_cell h.bx]; rfl, by rw [block_cell h.bx]; rfl, by rw [block_cell h.bx]; rfl⟩
theorem WT.scr (h : WT w W b1 n1 n2 nr nc nh no nt np A1 A2) : ScrIn W W.heap.size (qScr n1 n2 nr nc nh no nt (some ⟨np, 0, none⟩) 2 [0, 300]) :=
  h.Q.scr (reads_block (l := [.int .i64 0, .int .i64 300]) h.Q.p) (Nat.le_refl _) (by simp [maxLen])
end
theorem one_int (w : World) (n : Int) (E : Nat) (q : IntKind) : Reads (w.alloc (.cells #[.int q n] E)) (w.alloc (.cells #[.int q n] E)).heap.size (some ⟨w.heap.size, 0, none⟩) ([n].map (Value.int q)) := reads_block (l := [.int q n]) (one_alloc w _)

set_option maxHeartbeats 8000000 in
theorem written_is (K : Words8) (w : World) : Calls Try.prog 9 #[] w (Says w true) := by
  have HK := Lib.hid K
  clear K
  go_enter Try.func9, Try.ntmps9
  go_wp2_with fail
  refine (plain8_is w).mono ?_
  rintro e W1 ⟨n1, n2, nr, nc, nh, no, nt, np, rfl, Q1, B1⟩
  have hq := HK.out.bytes (some ⟨np, 0, none⟩) 2 [0, 300] (W1.alloc (.cells #[.slice (some ⟨n1, 0, none⟩) 1 1, .slice (some ⟨nr, 0, none⟩) 1 1, .slice (some ⟨nc, 0, none⟩) 1 1, .slice (some ⟨nt, 0, none⟩) 1 1, .slice (some ⟨np, 0, none⟩) 2 2] 30))
    (reads_block (l := [.int .i64 0, .int .i64 300]) (Q1.below (boxed W1 _)).p) (by simp) (by simp)
  rw [q_b1] at hq
  have hbx := scr_box W1 (.slice (some ⟨n1, 0, none⟩) 1 1) (.slice (some ⟨nr, 0, none⟩) 1 1) (.slice (some ⟨nc, 0, none⟩) 1 1) (.slice (some ⟨nt, 0, none⟩) 1 1) (.slice (some ⟨np, 0, none⟩) 2 2) 30 _ (Below.refl _ _)
  have hb1 := one_alloc W1 (.cells #[.slice (some ⟨n1, 0, none⟩) 1 1, .slice (some ⟨nr, 0, none⟩) 1 1, .slice (some ⟨nc, 0, none⟩) 1 1, .slice (some ⟨nt, 0, none⟩) 1 1, .slice (some ⟨np, 0, none⟩) 2 2] 30)
  have k1 := boxed W1 (.cells #[.slice (some ⟨n1, 0, none⟩) 1 1, .slice (some ⟨nr, 0, none⟩) 1 1, .slice (some ⟨nc, 0, none⟩) 1 1, .slice (some ⟨nt, 0, none⟩) 1 1, .slice (some ⟨np, 0, none⟩) 2 2] 30)
  have Q2 := Lib.hid (Q1.below k1)
  have B2 := Lib.hid (below_next B1 k1)
  have HB1 := Lib.hid hb1
  obtain ⟨f0, f1, f2, f3, f4⟩ := hbx
  clear hb1 k1 Q1 B1
  unfold Scr.val qScr qC
  go_wp2_with fail
  refine hq.mono ?_
  rintro e W3 ⟨A1, c1, rfl, r1, rl1, rl2, k3⟩
  have hb3 := (k3.block _ (block_lt HB1.out)).trans HB1.out
  have hq2 := HK.out.picks A1 c1 [0, 172, 2] W3 r1 rl1 rl2 (by simp)
  clear rl1 rl2
  rw [q_p1] at hq2
  have HB3 := Lib.hid hb3
  have Q3 := Lib.hid (Q2.out.below k3)
  have B3 := Lib.hid (below_next B2.out k3)
  have R1 := Lib.hid r1
  clear hq hb3 f0 f1 f2 f3 f4 k3 r1 Q2 B2 HB1
  go_wp2_with fail
  refine hq2.mono ?_
  rintro e W4 ⟨A2, c2, rfl, r2, _, _, k4⟩
  have T : WT w W4 W1.heap.size n1 n2 nr nc nh no nt np A1 A2 := ⟨below_next B3.out k4, Q3.out.below k4, (k4.block _ (block_lt HB3.out)).trans HB3.out, (R1.out.below k4).more k4.size, r2⟩
  have HT := Lib.hid T
  clear T hq2 r2 k4 Q3 B3 HB3 R1
  have hq := HK.out.bytes _ 1 [-1] _ (one_int W4 (-1) 3 .i64) (by simp) (by simp)
  rw [q_b2] at hq
  go_wp2_with fail
  refine hq.mono ?_
  rintro e W5 ⟨A3, c3, rfl, _, _, _, k5⟩
  replace HT := Lib.hid ((HT.out.below (boxed W4 _)).below k5)
  clear hq k5
  have hq := HK.out.picks _ 1 [128] _ (one_int W5 128 5 .u8) (by simp) (by simp [maxLen]) (by simp)
  rw [q_p2] at hq
  go_wp2_with fail
  refine hq.mono ?_
  rintro e W6 ⟨A4, c4, rfl, _, _, _, k6⟩
  replace HT := Lib.hid ((HT.out.below (boxed W5 _)).below k6)
  clear hq k6
  have hq := HK.out.picks _ 2 [128, 0] _ (reads_block (l := [.int .u8 128, .int .u8 0]) (one_alloc W6 (.cells #[.int .u8 128, .int .u8 0] 5))) (by simp) (by simp [maxLen]) (by simp)
  rw [q_p3] at hq
  go_wp2_with fail
  refine hq.mono ?_
  rintro e W7 ⟨A5, c5, rfl, _, _, _, k7⟩
  replace HT := Lib.hid ((HT.out.below (boxed W6 _)).below k7)
  clear hq k7
  obtain ⟨f0, f1, f2, f3, f4⟩ := HT.out.box
  -- another box, with other picks
  have hb7 := one_alloc W7 (.cells #[.slice (some ⟨n1, 0, none⟩) 1 1, .slice (some ⟨nr, 0, none⟩) 1 1, .slice (some ⟨nc, 0, none⟩) 1 1, .slice (some ⟨nt, 0, none⟩) 1 1, .slice (some ⟨np, 0, none⟩) 2 2] 30)
  have k7 := boxed W7 (.cells #[.slice (some ⟨n1, 0, none⟩) 1 1, .slice (some ⟨nr, 0, none⟩) 1 1, .slice (some ⟨nc, 0, none⟩) 1 1, .slice (some ⟨nt, 0, none⟩) 1 1, .slice (some ⟨np, 0, none⟩) 2 2] 30)
  have hz7 : (W7.alloc (.cells #[.slice (some ⟨n1, 0, none⟩) 1 1, .slice (some ⟨nr, 0, none⟩) 1 1, .slice (some ⟨nc, 0, none⟩) 1 1, .slice (some ⟨nt, 0, none⟩) 1 1, .slice (some ⟨np, 0, none⟩) 2 2] 30)).heap.size = W7.heap.size + 1 := by simp
  generalize hW8 : W7.alloc (.cells #[.slice (some ⟨n1, 0, none⟩) 1 1, .slice (some ⟨nr, 0, none⟩) 1 1, .slice (some ⟨nc, 0, none⟩) 1 1, .slice (some ⟨nt, 0, none⟩) 1 1, .slice (some ⟨np, 0, none⟩) 2 2] 30) = W8 at hb7 k7 hz7
  have hb9 := block_setCell (o := 4) (kept_alloc (o := .cells #[.int .i64 (-1)] 3) hb7) (.slice (some ⟨W7.heap.size + 1, 0, none⟩) 1 1)
  have k9 : Below W7.heap.size W7 ((W8.alloc (.cells #[.int .i64 (-1)] 3)).setCell ⟨W7.heap.size, 4, none⟩ (.slice (some ⟨W7.heap.size + 1, 0, none⟩) 1 1)) := (below_alloc k7 (Nat.le_refl _)).setCell (Nat.le_refl _) _
  have hr9 : ((W8.alloc (.cells #[.int .i64 (-1)] 3)).setCell ⟨W7.heap.size, 4, none⟩ (.slice (some ⟨W7.heap.size + 1, 0, none⟩) 1 1)).heap[W7.heap.size + 1]? = some (.cells #[.int .i64 (-1)] 3 (0, 0)) := by
    rw [Below.heap_setCell _ _ _ _ (by show W7.heap.size + 1 ≠ W7.heap.size; omega), ← hz7]
    exact one_alloc W8 _
  generalize hW9 : (W8.alloc (.cells #[.int .i64 (-1)] 3)).setCell ⟨W7.heap.size, 4, none⟩ (.slice (some ⟨W7.heap.size + 1, 0, none⟩) 1 1) = W9 at hb9 k9 hr9
  rw [← hW8] at hW9
  replace HT := Lib.hid (HT.out.below k9)
  have HB9 := Lib.hid hb9
  have HR9 := Lib.hid hr9
  clear hW8 hb7 k7 hz7 hb9 k9 hr9
  have hS := HK.out.is _ W9 HT.out.scr (q_few _ _ _ _ _ _ _ _ _ _ (by simp))
  rw [q_ok] at hS
  obtain ⟨e0, e1, e2, e3, e4⟩ := HT.out.box
  unfold Scr.val qScr qC at hS
  go_wp2_with fail
  refine hS.mono ?_
  rintro e W10 ⟨rfl, k10⟩
  replace HT := Lib.hid (HT.out.below k10)
  have hb := (k10.block _ (block_lt HB9.out)).trans HB9.out
  have hr := (k10.block _ (block_lt HR9.out)).trans HR9.out
  have hS2 := HK.out.is (qScr n1 n2 nr nc nh no nt (some ⟨W7.heap.size + 1, 0, none⟩) 1 [-1]) W10 (HT.out.Q.scr (reads_block (l := [.int .i64 (-1)]) hr) (Nat.le_refl _) (by simp [maxLen])) (q_few _ _ _ _ _ _ _ _ _ _ (by simp))
  rw [q_bad] at hS2
  have g0 : W10.cell? ⟨W7.heap.size, 0, none⟩ = some (.slice (some ⟨n1, 0, none⟩) 1 1) := by rw [block_cell hb]; rfl
  have g1 : W10.cell? ⟨W7.heap.size, 1, none⟩ = some (.slice (some ⟨nr, 0, none⟩) 1 1) := by rw [block_cell hb]; rfl
  have g2 : W10.cell? ⟨W7.heap.size, 2, none⟩ = some (.slice (some ⟨nc, 0, none⟩) 1 1) := by rw [block_cell hb]; rfl
  have g3 : W10.cell? ⟨W7.heap.size, 3, none⟩ = some (.slice (some ⟨nt, 0, none⟩) 1 1) := by rw [block_cell hb]; rfl
  have g4 : W10.cell? ⟨W7.heap.size, 4, none⟩ = some (.slice (some ⟨W7.heap.size + 1, 0, none⟩) 1 1) := by rw [block_cell hb]; rfl
  clear hS e0 e1 e2 e3 e4 f0 f1 f2 f3 f4 hb hr k10 hW9 HB9 HR9
  unfold Scr.val qScr qC at hS2
  go_wp2_with fail
  refine hS2.mono ?_
  rintro e W11 ⟨rfl, k11⟩
  replace HT := Lib.hid (HT.out.below k11)
  clear hS2 g0 g1 g2 g3 g4 k11
  obtain ⟨e0, e1, e2, e3, e4⟩ := HT.out.box
  have hN := HK.out.names _ W11 HT.out.scr (q_few _ _ _ _ _ _ _ _ _ _ (by simp))
  unfold Lists8 at hN
  rw [q_names] at hN
  unfold Scr.val qScr qC at hN
  go_wp2_with fail
  refine hN.mono ?_
  rintro e W12 ⟨A6, c6, rfl, r6, _, _, k12⟩
  replace HT := Lib.hid (HT.out.below k12)
  have k13 := boxed W12 (.cells #[.string qIn, .string qWeb] 9)
  have hq := same_yes A6 (some ⟨W12.heap.size, 0, none⟩) c6 2 [qIn, qWeb] (W12.alloc (.cells #[.string qIn, .string qWeb] 9)) (by simp [maxLen]) (Lib.hid ((r6.below k13).more k13.size)) (Lib.hid (reads_block (l := [.string qIn, .string qWeb]) (one_alloc W12 _)))
  replace HT := Lib.hid (HT.out.below k13)
  clear hN r6 k12 k13 e0 e1 e2 e3 e4
  unfold qIn qWeb at hq
  go_wp2_with fail
  refine hq.mono ?_
  rintro e W14 ⟨rfl, k14⟩
  replace HT := Lib.hid (HT.out.below k14)
  clear hq k14
  obtain ⟨ad1, ea, _, hc1⟩ := HT.out.r1 (by simp)
  have x0 := hc1 0 (.int .u8 0) rfl
  have x1 := hc1 1 (.int .u8 172) rfl
  have x2 := hc1 2 (.int .u8 2) rfl
  rw [Addr.add_zero'] at x0
  rw [show (1 : Nat) = 0 + 1 from rfl, Addr.add_succ'] at x1
  rw [show (2 : Nat) = 1 + 1 from rfl, Addr.add_succ'] at x2
  obtain ⟨e0, e1, e2, e3, e4⟩ := HT.out.box
  have hI := sameI_yes A2 (some ⟨np, 0, none⟩) c2 2 W14.heap.size W14.heap.size [0, 300] W14 (by simp [maxLen]) (Lib.hid HT.out.r2) (Lib.hid (reads_block (l := [.int .i64 0, .int .i64 300]) HT.out.Q.p))
  rw [ea]
  clear hc1 e0 e1 e2 e3
  go_wp2_with fail
  refine hI.mono ?_
  rintro e W15 ⟨rfl, k15⟩
  have B15 := below_next HT.out.B k15
  clear hI k15 x0 x1 x2 e4
  go_wp2_with fail
  go_ret
  exact ⟨rfl, B15⟩
end Go.Proofs.Ytmjdamcbdclgpaa
