/- The document's Sum of layer 11. -/
import Derived.Test.YtbbcgcinpodhkaaFmake
import Derived.Test.YtbbcgcinpodhkaaSeg
namespace Go.Proofs.Ytbbcgcinpodhkaa
open Go.RowKit
set_option linter.unusedVariables false
set_option linter.unusedSimpArgs false
set_option maxRecDepth 100000

/-- Six numbers lie in block b. -/
def SixAt (w : World) (b : Nat) (l : List Int) : Prop := w.heap[b]? = some (.cells (l.map (Value.int .u64)).toArray 28 (0, 0))

theorem SixAt.cell {w : World} {b : Nat} {l : List Int} (h : SixAt w b l) (j : Nat) : w.cell? ⟨b, j, none⟩ = (l[j]?).map (Value.int .u64) := by
  rw [block_cell h]
  simp
theorem SixAt.free {w : World} {b : Nat} {l : List Int} (h : SixAt w b l) (j : Nat) : w.frozen? ⟨b, j, none⟩ = false := block_free h _
theorem SixAt.set {w : World} {b : Nat} {l : List Int} (h : SixAt w b l) (j : Nat) (x : Int) : SixAt (w.setCell ⟨b, j, none⟩ (.int .u64 x)) b (l.set j x) := by
  unfold SixAt at h ⊢
  rw [block_setCell h]
  congr 2
  rw [List.map_set]
  simp
theorem SixAt.other {w : World} {b b' j : Nat} {l : List Int} {u : Value} (h : SixAt w b l) (hne : b ≠ b') : SixAt (w.setCell ⟨b', j, none⟩ u) b l := by
  unfold SixAt at h ⊢
  rw [Below.heap_setCell _ _ _ _ hne]
  exact h
theorem SixAt.below {w w' : World} {b B : Nat} {l : List Int} (h : SixAt w b l) (hb : Below B w w') (hlt : b < B) : SixAt w' b l := by
  unfold SixAt at h ⊢
  rw [hb.block b hlt]
  exact h
theorem setCell_grown (w : World) (b i : Nat) (v : Value) : w.grownBy (w.setCell ⟨b, i, none⟩ v) (some b) :=
  ⟨rfl, rfl, rfl, by simp [World.setCell], fun k _ hk => Below.heap_setCell _ _ _ _ (fun e => hk (by rw [e]))⟩
/-- Six stores into a block. -/
theorem six_put {w : World} {b : Nat} {l : List Int} (h : SixAt w b l) (h6 : l.length = 6) (x0 x1 x2 x3 x4 x5 : Int) :
    SixAt ((((((w.setCell ⟨b, 0, none⟩ (.int .u64 x0)).setCell ⟨b, 1, none⟩ (.int .u64 x1)).setCell ⟨b, 2, none⟩ (.int .u64 x2)).setCell ⟨b, 3, none⟩ (.int .u64 x3)).setCell ⟨b, 4, none⟩ (.int .u64 x4)).setCell ⟨b, 5, none⟩ (.int .u64 x5)) b [x0, x1, x2, x3, x4, x5] ∧
    w.grownBy ((((((w.setCell ⟨b, 0, none⟩ (.int .u64 x0)).setCell ⟨b, 1, none⟩ (.int .u64 x1)).setCell ⟨b, 2, none⟩ (.int .u64 x2)).setCell ⟨b, 3, none⟩ (.int .u64 x3)).setCell ⟨b, 4, none⟩ (.int .u64 x4)).setCell ⟨b, 5, none⟩ (.int .u64 x5)) (some b) := by
  obtain ⟨a0, a1, a2, a3, a4, a5, rfl⟩ : ∃ a b c d e f, l = [a, b, c, d, e, f] := by
    match l, h6 with
    | [a, b, c, d, e, f], _ => exact ⟨a, b, c, d, e, f, rfl⟩
  exact ⟨(((((h.set 0 x0).set 1 x1).set 2 x2).set 3 x3).set 4 x4).set 5 x5, grownBy_trans (grownBy_trans (grownBy_trans (grownBy_trans (grownBy_trans (setCell_grown _ _ _ _) (setCell_grown _ _ _ _)) (setCell_grown _ _ _ _)) (setCell_grown _ _ _ _)) (setCell_grown _ _ _ _)) (setCell_grown _ _ _ _)⟩
theorem six_cells {w : World} {b a0 a1 a2 a3 a4 a5 : _} (h : SixAt w b [a0, a1, a2, a3, a4, a5]) : w.cell? ⟨b, 0, none⟩ = some (.int .u64 a0) ∧ w.cell? ⟨b, 1, none⟩ = some (.int .u64 a1) ∧ w.cell? ⟨b, 2, none⟩ = some (.int .u64 a2) ∧ w.cell? ⟨b, 3, none⟩ = some (.int .u64 a3) ∧ w.cell? ⟨b, 4, none⟩ = some (.int .u64 a4) ∧ w.cell? ⟨b, 5, none⟩ = some (.int .u64 a5) :=
  ⟨h.cell 0, h.cell 1, h.cell 2, h.cell 3, h.cell 4, h.cell 5⟩
/-- The sums up to k, and that of the first i rows. -/
def accL (c : List (List Int)) (k i : Nat) : List Int := (List.range 6).map fun j => if j < k then sumK c j else if j = k then sumK (c.take i) k else 0
theorem accL_at (c : List (List Int)) (k i j : Nat) : (accL c k i)[j]? = if j < 6 then some (if j < k then sumK c j else if j = k then sumK (c.take i) k else 0) else none := by
  unfold accL
  rw [List.getElem?_map]
  by_cases h : j < 6
  · rw [List.getElem?_range h, if_pos h]; rfl
  · rw [if_neg h, List.getElem?_eq_none (by simp; omega)]; rfl
theorem sumK_none (c : List (List Int)) (k : Nat) : sumK (c.take 0) k = 0 := by simp [sumK]
theorem accL_zero (c : List (List Int)) : accL c 0 0 = zero6 := by
  refine List.ext_getElem? fun j => ?_
  rw [accL_at]
  unfold zero6
  rw [List.getElem?_replicate]
  by_cases h : j < 6
  · rw [if_pos h, if_pos h, if_neg (Nat.not_lt_zero j)]
    split
    · rename_i h0; subst h0; rw [sumK_none]
    · rfl
  · rw [if_neg h, if_neg h]
theorem accL_next (c : List (List Int)) (k : Nat) : accL c k c.length = accL c (k + 1) 0 := by
  refine List.ext_getElem? fun j => ?_
  rw [accL_at, accL_at, List.take_length, sumK_none]
  by_cases h : j < 6
  · rw [if_pos h, if_pos h]
    by_cases h1 : j < k
    · rw [if_pos h1, if_pos (show j < k + 1 by omega)]
    · rw [if_neg h1]
      by_cases h2 : j = k
      · subst h2; rw [if_pos rfl, if_pos (show j < j + 1 by omega)]
      · rw [if_neg h2, if_neg (show ¬ j < k + 1 by omega)]
        split <;> rfl
  · rw [if_neg h, if_neg h]
theorem accL_all (c : List (List Int)) : accL c 6 0 = sums c := by
  refine List.ext_getElem? fun j => ?_
  rw [accL_at]
  by_cases h : j < 6
  · rw [if_pos h, if_pos h, sums_at c h]
  · rw [if_neg h, List.getElem?_eq_none (by rw [sums_len]; omega)]
theorem sumK_take {c : List (List Int)} {k i : Nat} {r : List Int} (hr : c[i]? = some r) : sumK (c.take (i + 1)) k = (sumK (c.take i) k + r.getD k 0) % 18446744073709551616 := by
  unfold sumK
  rw [take_next hr, List.map_append, List.sum_append]
  simp
theorem accL_set {c : List (List Int)} {k i : Nat} {r : List Int} (hk : k < 6) (hr : c[i]? = some r) : (accL c k i).set k ((sumK (c.take i) k + r.getD k 0) % 18446744073709551616) = accL c k (i + 1) := by
  refine List.ext_getElem? fun j => ?_
  rw [List.getElem?_set, accL_at, accL_at, sumK_take hr]
  by_cases h : k = j
  · subst h
    rw [if_pos rfl, if_pos (by simp [accL]; exact hk), if_pos hk, if_neg (Nat.lt_irrefl _), if_pos rfl]
  · rw [if_neg h]
    by_cases h6 : j < 6
    · rw [if_pos h6, if_pos h6, if_neg (Ne.symm h), if_neg (Ne.symm h)]
    · rw [if_neg h6, if_neg h6]

set_option maxHeartbeats 8000000 in
theorem rsum11_is (A : Option Addr) (c : Nat) (rs : List Rw) (w : World) (h : GridIn .u64 w A c rs) :
    Calls Try.prog 11 #[.slice A rs.length c] w (Sum11 w (sumC (valsOf rs))) := by
  have h2 := h.below ((boxed w (.cells (zero6.map (Value.int .u64)).toArray 28)).trans ((boxed _ (.cells (zero6.map (Value.int .u64)).toArray 28)).mono (by simp)))
  have his := ris11_is .u64 A c rs _ h2
  have m1 := Nat.le_trans h.lc h.cm
  unfold maxLen at m1
  unfold sumC
  obtain ⟨b, hb⟩ : ∃ b, isC (valsOf rs) = b := ⟨_, rfl⟩
  rw [hb] at his ⊢
  have HB := Lib.hid hb
  have H := Lib.hid h
  clear h h2 hb
  obtain ⟨W, hW⟩ : ∃ W, (w.alloc (.cells (zero6.map (Value.int .u64)).toArray 28)).alloc (.cells (zero6.map (Value.int .u64)).toArray 28) = W := ⟨_, rfl⟩
  have hB : Below w.heap.size w W := by rw [← hW]; exact (boxed w _).trans ((boxed _ _).mono (by simp))
  have hZ2 : SixAt W w.heap.size zero6 := by rw [← hW]; unfold SixAt; rw [Below.heap_alloc _ _ _ (by simp)]; exact heap_alloc_new _ _
  have hZ4 : SixAt W (w.heap.size + 1) zero6 := by
    rw [← hW]
    have h := heap_alloc_new (w.alloc (.cells (zero6.map (Value.int .u64)).toArray 28)) (.cells (zero6.map (Value.int .u64)).toArray 28)
    rwa [World.size_alloc] at h
  have HIN := Lib.hid (H.out.below hB)
  have HBW := Lib.hid hB
  have HZ2 := Lib.hid hZ2
  have HZ4 := Lib.hid hZ4
  have HW := Lib.hid hW
  have HWW : Hid ((w.alloc (.cells #[.int .u64 0, .int .u64 0, .int .u64 0, .int .u64 0, .int .u64 0, .int .u64 0] 28)).alloc (.cells #[.int .u64 0, .int .u64 0, .int .u64 0, .int .u64 0, .int .u64 0, .int .u64 0] 28) = W) := Lib.hid hW
  clear hB hZ2 hZ4 hW
  cases b with
  | false =>
    rw [if_neg (by decide)]
    go_enter Try.func11, Try.ntmps11
    go_wp2_with fail
    refine his.mono ?_
    rintro e w' ⟨rfl, hw⟩
    have hw' := hw.trans HW.out
    subst hw'
    clear his hw
    obtain ⟨a0, a1, a2, a3, a4, a5⟩ := six_cells HZ4.out
    obtain ⟨b0, b1, b2, b3, b4, b5⟩ := six_cells HZ2.out
    have z := HZ2.out.free
    go_wp2_with fail
    obtain ⟨S6, G6⟩ := six_put HZ2.out rfl 0 0 0 0 0 0
    generalize hW6 : World.setCell _ _ _ = W6 at S6 G6 ⊢
    refine bodyPost_ret (v := .tuple #[six zero6, .int .i64 1]) ?_ rfl ⟨rfl, HBW.out.grown G6 HBW.out.size (fun k e => by cases e; exact Nat.le_refl _)⟩
    obtain ⟨c0, c1, c2, c3, c4, c5⟩ := six_cells S6
    simp [results, Try.f11, go_sem, c0, c1, c2, c3, c4, c5, six, zero6]
  | true =>
    rw [if_pos rfl]
    have h8 := isC_iff.1 HB.out
    have H6 := Lib.hid h8.1
    have hl8 : rs.length ≤ 8 := by rw [← vals_len]; exact h8.2.2
    clear h8
    go_enter Try.func11, Try.ntmps11
    go_wp2_with fail
    refine his.mono ?_
    rintro e w' ⟨rfl, hw⟩
    have hw' := hw.trans HW.out
    subst hw'
    clear his hw
    go_wp2_with fail
    go_loopg [5, 6] 6 (fun g k i wr => ∃ n : Nat, n ≤ 6 ∧ g = 6 - n ∧ k = .int .i64 n ∧ SixAt wr (w.heap.size + 1) (accL (valsOf rs) n 0) ∧ SixAt wr w.heap.size zero6 ∧ Below w.heap.size w wr)
    case atStart => exact ⟨0, Nat.zero_le _, rfl, rfl, by rw [accL_zero]; exact HZ4.out, HZ2.out, HBW.out⟩
    case round =>
      obtain ⟨n, hn, rfl, rfl, s4, s2, B⟩ := hrel
      have S4 := Lib.hid s4
      have S2 := Lib.hid s2
      have BR := Lib.hid B
      clear s4 s2 B
      by_cases hn6 : n < 6
      · have t1 : decide ((n : Int) < 6) = true := by rw [decide_eq_true_eq]; omega
        have t1' : decide (n < 6) = true := decide_eq_true hn6
        go_wp2_with fail
        go_loopg [6] rs.length (fun g i wi => ∃ m : Nat, m ≤ rs.length ∧ g = rs.length - m ∧ i = .int .i64 m ∧ SixAt wi (w.heap.size + 1) (accL (valsOf rs) n m) ∧ SixAt wi w.heap.size zero6 ∧ Below w.heap.size w wi)
        case atStart => exact ⟨0, Nat.zero_le _, rfl, rfl, S4.out, S2.out, BR.out⟩
        case round =>
          clear S4 S2 BR
          obtain ⟨m, hm, rfl, rfl, s4, s2, B⟩ := hrel
          have S4 := Lib.hid s4
          have S2 := Lib.hid s2
          have BR := Lib.hid B
          clear s4 s2
          by_cases hlt : m < rs.length
          · have t2 : decide ((m : Int) < (rs.length : Int)) = true := by rw [decide_eq_true_eq]; omega
            have t2' : decide (m < rs.length) = true := decide_eq_true hlt
            have hrow := H.out.row hlt
            have hva := vals_at hlt
            have hl6 : rs[m].l.length = 6 := H6.out _ (List.mem_of_getElem? hva)
            obtain ⟨x, hx⟩ : ∃ x, rs[m] = x := ⟨_, rfl⟩
            rw [hx] at hrow hva hl6
            obtain ⟨ad, rfl, b0, f0, g0⟩ := hrow
            have hnx : n < x.l.length := by omega
            obtain ⟨rd, hrd, hrb, f1⟩ := (g0.rd.below B).int hnx
            have hset := accL_set (c := valsOf rs) hn6 hva
            have hgd : x.l.getD n 0 = x.l[n] := by rw [List.getD_eq_getElem?_getD, List.getElem?_eq_getElem hnx]; rfl
            rw [hgd] at hset
            obtain ⟨y, hy⟩ : ∃ y, x.l[n] = y := ⟨_, rfl⟩
            rw [hy] at f1 hset
            have hcell := S4.out.cell n
            rw [accL_at, if_pos hn6, if_neg (Nat.lt_irrefl _), if_pos rfl] at hcell
            have hcell : _ = some (Value.int .u64 (sumK ((valsOf rs).take m) n)) := hcell
            obtain ⟨s, hs⟩ : ∃ s, sumK ((valsOf rs).take m) n = s := ⟨_, rfl⟩
            have hsu := sumK_u64 ((valsOf rs).take m) n
            rw [hs] at hcell hset hsu
            have hyu := u64_wf.1 (g0.wf _ (List.getElem_mem hnx))
            rw [hy] at hyu
            have hb4 := block_lt S4.out
            have f0' := (B.cell (p := ad.add m) (by rw [block_of_add]; exact b0)).trans f0
            rw [hrd] at f0'
            have F0 := far_cell (B := wr.heap.size) (p := ad.add m) (by rw [block_of_add]; exact Nat.lt_of_lt_of_le b0 B.size) f0'
            have F1 := far_cell (B := wr.heap.size) (p := rd.add n) (by rw [block_of_add]; exact Nat.lt_of_lt_of_le hrb B.size) f1
            have F4 := far_cell (B := wr.heap.size) (p := ⟨w.heap.size + 1, n, none⟩) hb4 hcell
            have Z4 : ∀ i : Far wr.heap.size wr, i.v.frozen? ⟨w.heap.size + 1, n, none⟩ = false := fun i => (i.p.frozen (p := ⟨w.heap.size + 1, n, none⟩) hb4).trans (S4.out.free n)
            have HSET := Lib.hid hset
            have HB4 := Lib.hid hb4
            have HB2 := Lib.hid (block_lt S2.out)
            have hys : ((s + y) % 18446744073709551616 : Int) = (s + y) % 18446744073709551616 := rfl
            clear hx hva b0 f0 g0 hrd hrb f1 hset hgd hy hcell hs f0' hb4 hys hl6 B
            go_wp2_with fail
            refine wp_region_seg (C := fun w' => ∃ i : Far wr.heap.size wr, w' = i.v) 13 (by kernel_rfl) (by kernel_rfl) (by rfl) (by kernel_rfl) (by kernel_rfl) ⟨⟨_, (Below.refl _ _).drew⟩, rfl⟩ ?_
            simp only [List.take]
            iterate 13 go_big_quiet_step (fail)
            refine wpQuiet_nil ?_
            rintro _ ⟨i, rfl⟩
            have f4 := F4 i
            have z4 := Z4 i
            have hst := (S4.out.below i.p HB4.out).set n ((s + y) % 18446744073709551616)
            rw [HSET.out] at hst
            have S4' := Lib.hid hst
            have S2' := Lib.hid ((S2.out.below i.p HB2.out).other (b' := w.heap.size + 1) (j := n) (u := .int .u64 ((s + y) % 18446744073709551616)) (by omega))
            have B5 := Lib.hid ((BR.out.trans (i.p.mono BR.out.size)).setCell (p := ⟨w.heap.size + 1, n, none⟩) (by show w.heap.size ≤ w.heap.size + 1; omega) (.int .u64 ((s + y) % 18446744073709551616)))
            obtain ⟨W5, hW5⟩ : ∃ W5, i.v = W5 := ⟨_, rfl⟩
            rw [hW5] at f4 z4 S4' S2' B5 ⊢
            clear hst F0 F1 F4 Z4 hW5 HSET
            refine wpAny_next (f := 0) (k := 13) (by kernel_rfl) rfl (fun K hK => ?_)
            go_simp
            refine hK.out _ _ ?_
            clear hK
            refine wpAny_end (by kernel_rfl) ?_ _
            clear f4 z4
            go_wp2_with fail
            go_roundg (rs.length - (m + 1))
            case measure => omega
            case rel => exact ⟨m + 1, by omega, rfl, by go_num, S4'.out, S2'.out, B5.out⟩
          · obtain rfl : m = rs.length := by omega
            have t2 : decide ((rs.length : Int) < (rs.length : Int)) = false := by rw [decide_eq_false_iff_not]; omega
            have HNX := Lib.hid (accL_next (valsOf rs) n)
            clear B
            go_wp2_with fail
            go_roundg (6 - (n + 1))
            case measure => omega
            case rel => exact ⟨n + 1, by omega, rfl, by go_num, by rw [← HNX.out, vals_len]; exact S4.out, S2.out, BR.out⟩
      · obtain rfl : n = 6 := by omega
        have t1 : decide (((6 : Nat) : Int) < 6) = false := by decide
        have s4 := S4.out
        rw [accL_all] at s4
        obtain ⟨x0, x1, x2, x3, x4, x5, hx⟩ : ∃ a b c d e f, sums (valsOf rs) = [a, b, c, d, e, f] := by
          have := sums_len (valsOf rs)
          match h : sums (valsOf rs), this with
          | [a, b, c, d, e, f], _ => exact ⟨a, b, c, d, e, f, rfl⟩
        rw [hx] at s4
        have HX := Lib.hid hx
        obtain ⟨a0, a1, a2, a3, a4, a5⟩ := six_cells s4
        obtain ⟨b0, b1, b2, b3, b4, b5⟩ := six_cells S2.out
        have z := S2.out.free
        clear s4 hx
        go_wp2_with fail
        obtain ⟨S6, G6⟩ := six_put S2.out rfl x0 x1 x2 x3 x4 x5
        generalize hW6 : World.setCell _ _ _ = W6 at S6 G6 ⊢
        refine bodyPost_ret (v := .tuple #[six (sums (valsOf rs)), .int .i64 0]) ?_ rfl ⟨rfl, BR.out.grown G6 BR.out.size (fun k e => by cases e; exact Nat.le_refl _)⟩
        rw [HX.out]
        obtain ⟨c0, c1, c2, c3, c4, c5⟩ := six_cells S6
        simp [results, Try.f11, go_sem, c0, c1, c2, c3, c4, c5, six]
end Go.Proofs.Ytbbcgcinpodhkaa
