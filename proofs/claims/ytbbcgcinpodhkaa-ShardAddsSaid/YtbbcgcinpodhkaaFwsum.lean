/- shard.Sum of the program. -/
import Derived.Test.YtbbcgcinpodhkaaFwis
namespace Go.Proofs.Ytbbcgcinpodhkaa
open Go.RowKit
set_option linter.unusedVariables false
set_option linter.unusedSimpArgs false
set_option maxRecDepth 100000

/-- The sums of the first m rows, and of row m's first n numbers. -/
def accR (c : List (List Int)) (m n : Nat) : List Int := (List.range 6).map fun j => if j < n then sumK (c.take (m + 1)) j else sumK (c.take m) j
theorem accR_at (c : List (List Int)) (m n j : Nat) : (accR c m n)[j]? = if j < 6 then some (if j < n then sumK (c.take (m + 1)) j else sumK (c.take m) j) else none := by
  unfold accR
  rw [List.getElem?_map]
  by_cases h : j < 6
  · rw [List.getElem?_range h, if_pos h]; rfl
  · rw [if_neg h, List.getElem?_eq_none (by simp; omega)]; rfl
theorem accR_zero (c : List (List Int)) : accR c 0 0 = zero6 := by
  refine List.ext_getElem? fun j => ?_
  rw [accR_at]
  unfold zero6
  rw [List.getElem?_replicate]
  by_cases h : j < 6
  · rw [if_pos h, if_pos h, if_neg (Nat.not_lt_zero j), sumK_none]
  · rw [if_neg h, if_neg h]
theorem accR_next (c : List (List Int)) (m : Nat) : accR c m 6 = accR c (m + 1) 0 := by
  refine List.ext_getElem? fun j => ?_
  rw [accR_at, accR_at]
  by_cases h : j < 6
  · rw [if_pos h, if_pos h, if_pos h, if_neg (Nat.not_lt_zero j)]
  · rw [if_neg h, if_neg h]
theorem accR_all (c : List (List Int)) : accR c c.length 0 = sums c := by
  refine List.ext_getElem? fun j => ?_
  rw [accR_at, List.take_length]
  by_cases h : j < 6
  · rw [if_pos h, if_neg (Nat.not_lt_zero j), sums_at c h]
  · rw [if_neg h, List.getElem?_eq_none (by rw [sums_len]; omega)]
theorem accR_set {c : List (List Int)} {m n : Nat} {r : List Int} (hn : n < 6) (hr : c[m]? = some r) : (accR c m n).set n ((sumK (c.take m) n + r.getD n 0) % 18446744073709551616) = accR c m (n + 1) := by
  refine List.ext_getElem? fun j => ?_
  rw [List.getElem?_set, accR_at, accR_at]
  by_cases h : n = j
  · subst h
    rw [if_pos rfl, if_pos (by simp [accR]; exact hn), if_pos hn, if_pos (show n < n + 1 by omega), sumK_take hr]
  · rw [if_neg h]
    by_cases h6 : j < 6
    · rw [if_pos h6, if_pos h6]
      by_cases h7 : j < n
      · rw [if_pos h7, if_pos (show j < n + 1 by omega)]
      · rw [if_neg h7, if_neg (show ¬ j < n + 1 by omega)]
    · rw [if_neg h6, if_neg h6]

set_option maxHeartbeats 8000000 in
theorem sum11_is (A : Option Addr) (c : Nat) (rs : List Rw) (w : World) (h : GridIn .u64 w A c rs) :
    Calls Try.prog 10 #[.slice A rs.length c] w (Sum11 w (sumC (valsOf rs))) := by
  have h2 := h.below ((boxed w (.cells (zero6.map (Value.int .u64)).toArray 28)).trans ((boxed _ (.cells (zero6.map (Value.int .u64)).toArray 28)).mono (by simp)))
  have his := is11_is A c rs _ h2
  have m1 := Nat.le_trans h.lc h.cm
  unfold maxLen at m1
  unfold sumC
  obtain ⟨b, hb⟩ : ∃ b, isC (valsOf rs) = b := ⟨_, rfl⟩
  rw [hb] at his ⊢
  have HB := Lib.hid hb
  have H := Lib.hid h
  clear h h2 hb
  obtain ⟨W, hW⟩ : ∃ W, (w.alloc (.cells (zero6.map (Value.int .u64)).toArray 28)).alloc (.cells (zero6.map (Value.int .u64)).toArray 28) = W := ⟨_, rfl⟩
  have hB : Below w.heap.size w W := by rw [← hW]; exact (boxed w _).trans ((boxed _ _).mono (by simp))
  have hZ2 : SixAt W w.heap.size zero6 := by rw [← hW]; unfold SixAt; rw [Below.heap_alloc _ _ _ (by simp)]; exact heap_alloc_new _ _
  have hZ4 : SixAt W (w.heap.size + 1) zero6 := by
    rw [← hW]
    have h := heap_alloc_new (w.alloc (.cells (zero6.map (Value.int .u64)).toArray 28)) (.cells (zero6.map (Value.int .u64)).toArray 28)
    rwa [World.size_alloc] at h
  have HIN := Lib.hid (H.out.below hB)
  have HBW := Lib.hid hB
  have HZ2 := Lib.hid hZ2
  have HZ4 := Lib.hid hZ4
  have HW := Lib.hid hW
  clear hB hZ2 hZ4 hW
  cases b with
  | false =>
    rw [if_neg (by decide)]
    go_enter Try.func10, Try.ntmps10
    go_wp2_with fail
    refine his.mono ?_
    rintro e w' ⟨rfl, hw⟩
    have hw' := hw.trans HW.out
    subst hw'
    clear his hw
    obtain ⟨a0, a1, a2, a3, a4, a5⟩ := six_cells HZ4.out
    obtain ⟨b0, b1, b2, b3, b4, b5⟩ := six_cells HZ2.out
    have z := HZ2.out.free
    go_wp2_with fail
    obtain ⟨S6, G6⟩ := six_put HZ2.out rfl 0 0 0 0 0 0
    generalize hW6 : World.setCell _ _ _ = W6 at S6 G6 ⊢
    refine bodyPost_ret (v := .tuple #[six zero6, .int .i64 1]) ?_ rfl ⟨rfl, HBW.out.grown G6 HBW.out.size (fun k e => by cases e; exact Nat.le_refl _)⟩
    obtain ⟨c0, c1, c2, c3, c4, c5⟩ := six_cells S6
    simp [results, Try.f10, go_sem, c0, c1, c2, c3, c4, c5, six, zero6]
  | true =>
    rw [if_pos rfl]
    have h8 := isC_iff.1 HB.out
    have H6 := Lib.hid h8.1
    have hl8 : rs.length ≤ 8 := by rw [← vals_len]; exact h8.2.2
    clear h8
    go_enter Try.func10, Try.ntmps10
    go_wp2_with fail
    refine his.mono ?_
    rintro e w' ⟨rfl, hw⟩
    have hw' := hw.trans HW.out
    subst hw'
    clear his hw
    go_wp2_with fail
    go_loopg [14, 18] rs.length (fun g k i wr => ∃ m : Nat, m ≤ rs.length ∧ g = rs.length - m ∧ k = .int .i64 m ∧ SixAt wr (w.heap.size + 1) (accR (valsOf rs) m 0) ∧ SixAt wr w.heap.size zero6 ∧ Below w.heap.size w wr)
    case atStart => exact ⟨0, Nat.zero_le _, rfl, rfl, by rw [accR_zero]; exact HZ4.out, HZ2.out, HBW.out⟩
    case round =>
      obtain ⟨m, hm, rfl, rfl, s4, s2, B⟩ := hrel
      have S4 := Lib.hid s4
      have S2 := Lib.hid s2
      have BR := Lib.hid B
      clear s4 s2
      by_cases hlt : m < rs.length
      · have t1 : decide ((m : Int) < (rs.length : Int)) = true := by rw [decide_eq_true_eq]; omega
        have t1' : decide (m < rs.length) = true := decide_eq_true hlt
        have hrow := H.out.row hlt
        have hva := vals_at hlt
        have hl6 : rs[m].l.length = 6 := H6.out _ (List.mem_of_getElem? hva)
        obtain ⟨x, hx⟩ : ∃ x, rs[m] = x := ⟨_, rfl⟩
        rw [hx] at hrow hva hl6
        obtain ⟨ad, rfl, b0, f0, g0⟩ := hrow
        obtain ⟨rd, hrd, hrb, hrc⟩ := g0.rd (by rw [List.length_map, hl6]; omega)
        have f0' := (B.cell (p := ad.add m) (by rw [block_of_add]; exact b0)).trans f0
        rw [hrd, hl6] at f0'
        have HVA := Lib.hid hva
        have HL6 := Lib.hid hl6
        have HG := Lib.hid g0
        have HRC := Lib.hid hrc
        clear hx hva hl6 f0 g0 hrd hrc B
        go_wp2_with fail
        go_loopg [18] 6 (fun g i wi => ∃ n : Nat, n ≤ 6 ∧ g = 6 - n ∧ i = .int .i64 n ∧ SixAt wi (w.heap.size + 1) (accR (valsOf rs) m n) ∧ SixAt wi w.heap.size zero6 ∧ Below w.heap.size w wi)
        case atStart => exact ⟨0, Nat.zero_le _, rfl, rfl, S4.out, S2.out, BR.out⟩
        case round =>
          clear S4 S2 BR f0'
          obtain ⟨n, hn, rfl, rfl, s4, s2, B⟩ := hrel
          have S4 := Lib.hid s4
          have S2 := Lib.hid s2
          have BR := Lib.hid B
          clear s4 s2
          by_cases hn6 : n < 6
          · have t2 : decide ((n : Int) < 6) = true := by rw [decide_eq_true_eq]; omega
            have t2' : decide (n < 6) = true := decide_eq_true hn6
            have hnx : n < x.l.length := by rw [HL6.out]; exact hn6
            have hset := accR_set (c := valsOf rs) hn6 HVA.out
            have hgd : x.l.getD n 0 = x.l[n] := by rw [List.getD_eq_getElem?_getD, List.getElem?_eq_getElem hnx]; rfl
            rw [hgd] at hset
            have f1 := (B.cell (p := rd.add n) (by rw [block_of_add]; exact hrb)).trans (HRC.out n (.int .u64 x.l[n]) (by rw [List.getElem?_map, List.getElem?_eq_getElem hnx]; rfl))
            have hyu := u64_wf.1 (HG.out.wf _ (List.getElem_mem hnx))
            obtain ⟨y, hy⟩ : ∃ y, x.l[n] = y := ⟨_, rfl⟩
            rw [hy] at f1 hset hyu
            have hcell := S4.out.cell n
            rw [accR_at, if_pos hn6, if_neg (Nat.lt_irrefl _)] at hcell
            have hcell : _ = some (Value.int .u64 (sumK ((valsOf rs).take m) n)) := hcell
            obtain ⟨s, hs⟩ : ∃ s, sumK ((valsOf rs).take m) n = s := ⟨_, rfl⟩
            have hsu := sumK_u64 ((valsOf rs).take m) n
            rw [hs] at hcell hset hsu
            have hb4 := block_lt S4.out
            have F1 := far_cell (B := wr.heap.size) (p := rd.add n) (by rw [block_of_add]; exact Nat.lt_of_lt_of_le hrb B.size) f1
            have F4 := far_cell (B := wr.heap.size) (p := ⟨w.heap.size + 1, n, none⟩) hb4 hcell
            have Z4 : ∀ i : Far wr.heap.size wr, i.v.frozen? ⟨w.heap.size + 1, n, none⟩ = false := fun i => (i.p.frozen (p := ⟨w.heap.size + 1, n, none⟩) hb4).trans (S4.out.free n)
            have HSET := Lib.hid hset
            have HB4 := Lib.hid hb4
            have HB2 := Lib.hid (block_lt S2.out)
            clear hnx hgd f1 hset hy hcell hs hb4 B
            go_wp2_with fail
            refine wp_region_seg (C := fun w' => ∃ i : Far wr.heap.size wr, w' = i.v) 9 (by kernel_rfl) (by kernel_rfl) (by rfl) (by kernel_rfl) (by kernel_rfl) ⟨⟨_, (Below.refl _ _).drew⟩, rfl⟩ ?_
            simp only [List.take]
            iterate 9 go_big_quiet_step (fail)
            refine wpQuiet_nil ?_
            rintro _ ⟨i, rfl⟩
            have f4 := F4 i
            have z4 := Z4 i
            have hst := (S4.out.below i.p HB4.out).set n ((s + y) % 18446744073709551616)
            rw [HSET.out] at hst
            have S4' := Lib.hid hst
            have S2' := Lib.hid ((S2.out.below i.p HB2.out).other (b' := w.heap.size + 1) (j := n) (u := .int .u64 ((s + y) % 18446744073709551616)) (by omega))
            have B5 := Lib.hid ((BR.out.trans (i.p.mono BR.out.size)).setCell (p := ⟨w.heap.size + 1, n, none⟩) (by show w.heap.size ≤ w.heap.size + 1; omega) (.int .u64 ((s + y) % 18446744073709551616)))
            obtain ⟨W5, hW5⟩ : ∃ W5, i.v = W5 := ⟨_, rfl⟩
            rw [hW5] at f4 z4 S4' S2' B5 ⊢
            clear hst F1 F4 Z4 hW5 HSET
            refine wpAny_next (f := 0) (k := 9) (by kernel_rfl) rfl (fun K hK => ?_)
            go_simp
            refine hK.out _ _ ?_
            clear hK
            refine wpAny_end (by kernel_rfl) ?_ _
            clear f4 z4
            go_wp2_with fail
            go_roundg (6 - (n + 1))
            case measure => omega
            case rel => exact ⟨n + 1, by omega, rfl, by go_num, S4'.out, S2'.out, B5.out⟩
          · obtain rfl : n = 6 := by omega
            have t2 : decide (((6 : Nat) : Int) < 6) = false := by decide
            have HNX := Lib.hid (accR_next (valsOf rs) m)
            clear B
            go_wp2_with fail
            go_roundg (rs.length - (m + 1))
            case measure => omega
            case rel => exact ⟨m + 1, by omega, rfl, by go_num, by rw [← HNX.out]; exact S4.out, S2.out, BR.out⟩
      · obtain rfl : m = rs.length := by omega
        have t1 : decide ((rs.length : Int) < (rs.length : Int)) = false := by rw [decide_eq_false_iff_not]; omega
        have t1' : decide (rs.length < rs.length) = false := by rw [decide_eq_false_iff_not]; omega
        have s4 := S4.out
        have hall := accR_all (valsOf rs)
        rw [vals_len] at hall
        rw [hall] at s4
        obtain ⟨x0, x1, x2, x3, x4, x5, hx⟩ : ∃ a b c d e f, sums (valsOf rs) = [a, b, c, d, e, f] := by
          have := sums_len (valsOf rs)
          match h : sums (valsOf rs), this with
          | [a, b, c, d, e, f], _ => exact ⟨a, b, c, d, e, f, rfl⟩
        rw [hx] at s4
        have HX := Lib.hid hx
        obtain ⟨a0, a1, a2, a3, a4, a5⟩ := six_cells s4
        obtain ⟨b0, b1, b2, b3, b4, b5⟩ := six_cells S2.out
        have z := S2.out.free
        clear s4 hx hall B
        go_wp2_with fail
        obtain ⟨S6, G6⟩ := six_put S2.out rfl x0 x1 x2 x3 x4 x5
        generalize hW6 : World.setCell _ _ _ = W6 at S6 G6 ⊢
        refine bodyPost_ret (v := .tuple #[six (sums (valsOf rs)), .int .i64 0]) ?_ rfl ⟨rfl, BR.out.grown G6 BR.out.size (fun k e => by cases e; exact Nat.le_refl _)⟩
        rw [HX.out]
        obtain ⟨c0, c1, c2, c3, c4, c5⟩ := six_cells S6
        simp [results, Try.f10, go_sem, c0, c1, c2, c3, c4, c5, six]
end Go.Proofs.Ytbbcgcinpodhkaa
