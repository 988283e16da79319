/- CallsFront: the walk, over what the program's three calls say. -/
import Derived.Test.YtglnofdncglmnaaElaw3
namespace Go.Proofs.Ytglnofdncglmnaa
open Go.RowKit
set_option linter.unusedVariables false
set_option linter.unusedSimpArgs false
set_option maxRecDepth 100000

theorem EvsIn.take {w : World} {A : Option Addr} {c : Nat} {l : List Ev} (h : EvsIn w A c l) (n : Nat) : EvsIn w A c (l.take n) :=
  ⟨by rw [List.map_take]; exact h.r.take n, by rw [List.length_take]; have := h.lc; omega, h.cm, fun e he => h.v e (List.mem_of_mem_take he)⟩

set_option maxHeartbeats 16000000 in
theorem callsFront_walk (K : Words10) (A : Option Addr) (c : Nat) (l : List Ev) (n : Int) (w : World) (h : EvsIn w A c l) (hz : l.length * 168 ≤ 140737488351232) (hnv : (Lit.int .i64 n).wf = true) :
    Calls Try.prog 6 #[.slice A l.length c, .int .i64 n] w fun e w' => e = .returned (.bool true) ∧ Below w.heap.size w w' := by
  have HK := Lib.hid K
  have H0 := Lib.hid h
  have m1 := Nat.le_trans h.lc h.cm
  have lc := h.lc
  have cm := h.cm
  unfold maxLen at m1 cm
  have HT := Lib.hid (fun W => traced_is HK.out W)
  have hq := HK.out.of A c l w h hz
  have HCL := Lib.hid (calls_le (l := l))
  obtain ⟨r, hr⟩ : ∃ r, ofL l = r := ⟨_, rfl⟩
  rw [hr] at hq HCL
  have HR := Lib.hid hr
  have VN := i64_of hnv
  clear K h hr hnv
  go_enter Try.func6, Try.ntmps6
  go_wp2_with fail
  refine hq.mono ?_
  intro e W1 h1
  obtain ⟨A1, c1, rfl, r1, k1⟩ := told_all h1
  have B1 := Lib.hid k1
  have R1 := Lib.hid r1
  have H1 := Lib.hid (H0.out.below k1)
  clear hq h1 r1 k1 H0
  by_cases hbad : 300 < l.length ∨ r = none ∨ n < 0 ∨ (l.length : Int) < n
  · have four : decide ((300 : Int) < (l.length : Int)) = true ∨ (decide ((300 : Int) < (l.length : Int)) = false ∧ errOf r = 11) ∨ (decide ((300 : Int) < (l.length : Int)) = false ∧ errOf r = 0 ∧ decide (n < 0) = true) ∨ (decide ((300 : Int) < (l.length : Int)) = false ∧ errOf r = 0 ∧ decide (n < 0) = false ∧ decide ((l.length : Int) < n) = true) := by
      by_cases h3 : 300 < l.length
      · exact .inl (by rw [decide_eq_true_eq]; omega)
      · have h3' : decide ((300 : Int) < (l.length : Int)) = false := by rw [decide_eq_false_iff_not]; omega
        rcases r with _ | cs
        · exact .inr (.inl ⟨h3', rfl⟩)
        · by_cases hn : n < 0
          · exact .inr (.inr (.inl ⟨h3', rfl, decide_eq_true hn⟩))
          · refine .inr (.inr (.inr ⟨h3', rfl, decide_eq_false hn, ?_⟩))
            rw [decide_eq_true_eq]
            rcases hbad with hb | hb | hb | hb
            · exact absurd hb h3
            · cases hb
            · exact absurd hb hn
            · exact hb
    clear hbad VN
    rcases four with d1 | ⟨d1, d2⟩ | ⟨d1, d2, d3⟩ | ⟨d1, d2, d3, d4⟩
    case' inr.inl => rw [d2]; clear d2
    case' inr.inr.inl => rw [d2]; clear d2
    case' inr.inr.inr => rw [d2]; clear d2
    all_goals
      go_wp2_with fail
      refine (HT.out W1).mono ?_
      rintro e W2 ⟨rfl, k2⟩
      have B2 := Lib.hid (below_next B1.out k2)
      clear k2
      go_wp2_with fail
      go_ret
      exact ⟨rfl, B2.out⟩
  · have n1 : l.length ≤ 300 := by omega
    have d1 : decide ((300 : Int) < (l.length : Int)) = false := by rw [decide_eq_false_iff_not]; omega
    obtain ⟨cs, rfl⟩ : ∃ cs, r = some cs := by
      rcases r with _ | cs
      · exact absurd (.inr (.inl rfl)) hbad
      · exact ⟨cs, rfl⟩
    obtain ⟨n, rfl⟩ : ∃ q : Nat, n = (q : Int) := ⟨n.toNat, by omega⟩
    have hnl : n ≤ l.length := by omega
    have hn : cs.length ≤ 300 := by have := HCL.out; rw [Option.getD_some] at this; omega
    have R1 : Hid (CalsIn W1 A1 c1 cs) := R1
    rw [show ((some cs).getD []).length = cs.length from rfl, show errOf (some cs) = 0 from rfl]
    obtain ⟨ds, hds⟩ := ofTo_some HR.out hnl
    have HFO := Lib.hid (fore_of hnl (Nat.le_refl _) hds HR.out)
    have hdl : ds.length ≤ cs.length := HFO.out.1
    have hcap : n ≤ c := by omega
    have hll : (l.take n).length = n := by rw [List.length_take]; omega
    have hq := HK.out.of A c (l.take n) W1 (H1.out.take n) (by rw [hll]; omega)
    rw [ofL_take hnl, hds, hll] at hq
    have e3 : decide ((n : Int) < 0) = false := by rw [decide_eq_false_iff_not]; omega
    have e4 : decide ((l.length : Int) < (n : Int)) = false := by rw [decide_eq_false_iff_not]; omega
    have e4' : decide (l.length < n) = false := by rw [decide_eq_false_iff_not]; omega
    have e5 : decide ((cs.length : Int) < (ds.length : Int)) = false := by rw [decide_eq_false_iff_not]; omega
    have e5' : decide (cs.length < ds.length) = false := by rw [decide_eq_false_iff_not]; omega
    clear hbad hds hll VN
    go_wp2_with fail
    refine hq.mono ?_
    intro e W2 h2
    obtain ⟨A2, c2, rfl, r2, k2⟩ := told_some (n := ds.length) h2 rfl
    have B2 := Lib.hid (below_next B1.out k2)
    have R2 := Lib.hid (R1.out.below k2)
    have D2 := Lib.hid r2
    clear hq h2 r2 k2
    go_wp2_with fail
    go_loopg [9] ds.length (fun g i wr => ∃ k : Nat, k ≤ ds.length ∧ g = ds.length - k ∧ i = .int .i64 k ∧ Below W2.heap.size W2 wr)
    case atStart => exact ⟨0, Nat.zero_le _, rfl, rfl, Below.refl _ _⟩
    case round =>
      obtain ⟨k, hk, rfl, rfl, B⟩ := hrel
      have BI := Lib.hid B
      by_cases hlt : k < ds.length
      · have t1 : decide ((k : Int) < (ds.length : Int)) = true := by rw [decide_eq_true_eq]; omega
        have t1' : decide (k < ds.length) = true := decide_eq_true hlt
        have hlc : k < cs.length := by omega
        have t2 : decide (k < cs.length) = true := decide_eq_true hlc
        obtain ⟨add, rfl, hb1, hx⟩ := cal_of (D2.out.r.below B) hlt
        obtain ⟨adc, rfl, hb2, hy⟩ := cal_of (R2.out.r.below B) hlc
        obtain ⟨y, hy2, hf⟩ := HFO.out.2 k _ (List.getElem?_eq_getElem hlt)
        rw [List.getElem?_eq_getElem hlc] at hy2
        injection hy2 with hy2
        have L1 := Lib.hid (load_at hb1 hx)
        have L2 := Lib.hid (load_at hb2 hy)
        obtain ⟨x0, x1, x2, x3, x4, _⟩ := cal_at hx
        obtain ⟨y0, y1, y2, y3, y4, _⟩ := cal_at hy
        rw [hy2] at L2 y0 y1 y2 y3 y4
        obtain ⟨x, hxx⟩ : ∃ x, ds[k] = x := ⟨_, rfl⟩
        rw [hxx] at L1 x0 x1 x2 x3 x4 hf
        obtain ⟨f1, f2, f3, f4, f5⟩ := hf
        rw [← f1] at y0
        rw [← f2] at y1
        rw [← f3] at y2
        have hbx : (add.add (k * 18)).block < W2.heap.size := by rw [block_of_add]; exact hb1
        have hby : (adc.add (k * 18)).block < W2.heap.size := by rw [block_of_add]; exact hb2
        have X0 := far_at' hbx x0
        have X1 := far_at' (B := W2.heap.size) (p := ⟨(add.add (k * 18)).block, (add.add (k * 18)).off + 1, none⟩) hbx x1
        have X2 := far_at' (B := W2.heap.size) (p := ⟨(add.add (k * 18)).block, (add.add (k * 18)).off + 2, none⟩) hbx x2
        have X3 := far_at' (B := W2.heap.size) (p := ⟨(add.add (k * 18)).block, (add.add (k * 18)).off + 3, none⟩) hbx x3
        have X4 := far_at' (B := W2.heap.size) (p := ⟨(add.add (k * 18)).block, (add.add (k * 18)).off + 4, none⟩) hbx x4
        have Y0 := far_at' hby y0
        have Y1 := far_at' (B := W2.heap.size) (p := ⟨(adc.add (k * 18)).block, (adc.add (k * 18)).off + 1, none⟩) hby y1
        have Y2 := far_at' (B := W2.heap.size) (p := ⟨(adc.add (k * 18)).block, (adc.add (k * 18)).off + 2, none⟩) hby y2
        have Y3 := far_at' (B := W2.heap.size) (p := ⟨(adc.add (k * 18)).block, (adc.add (k * 18)).off + 3, none⟩) hby y3
        have u1 : (x.thread != x.thread) = false := by simp
        have u2 : (x.op != x.op) = false := by simp
        have u3 : (x.frm != x.frm) = false := by simp
        have u4 : decide (y.point < x.point) = false := by rw [decide_eq_false_iff_not]; omega
        by_cases hto : 0 ≤ x.to
        · have hxy : x = y := f5 hto
          have u5 : decide (0 ≤ x.to) = true := decide_eq_true hto
          have HXY := Lib.hid hxy
          rw [← hxy] at L2
          clear hx hy hy2 hxx x0 x1 x2 x3 x4 y0 y1 y2 y3 y4 f1 f2 f3 f4 f5 hbx hby B hto hxy
          go_wp2_with fail
          simp only [List.append]
          refine wp_region_far (B := W2.heap.size) (by kernel_rfl) (by kernel_rfl) ?_
          iterate 61 go_big_quiet_step (fail)
          refine wpQuiet_load rfl (.tmp 115) 40 rfl _ _ rfl L1.out ?_
          simp only [Act.put, List.setIfInBounds_toArray, List.set_cons_zero, List.set_cons_succ]
          iterate 3 go_big_quiet_step (fail)
          refine wpQuiet_load rfl (.tmp 119) 40 rfl _ _ rfl L2.out ?_
          simp only [Act.put, List.setIfInBounds_toArray, List.set_cons_zero, List.set_cons_succ]
          refine wpQuiet_bin rfl .neq (.tmp 116) (.tmp 120) 40 _ rfl _ _ (.bool false) rfl rfl (guard_val _ _ _ _ _) (neq_val _) ?_
          simp only [Act.put, List.setIfInBounds_toArray, List.set_cons_zero, List.set_cons_succ]
          iterate 2 go_big_quiet_step (fail)
          refine wpQuiet_nil ?_
          rintro _ ⟨i, rfl⟩
          have BI2 := Lib.hid (BI.out.trans i.p)
          obtain ⟨W5, hW5⟩ : ∃ W5, i.v = W5 := ⟨_, rfl⟩
          rw [hW5] at BI2 ⊢
          clear hW5 X0 X1 X2 X3 X4 Y0 Y1 Y2 Y3 L1 L2
          go_wp2_with fail
          go_roundg (ds.length - (k + 1))
          case measure => omega
          case rel => exact ⟨k + 1, by omega, rfl, by go_num, BI2.out⟩
        · have u5 : decide (0 ≤ x.to) = false := decide_eq_false hto
          clear hx hy hy2 hxx x0 x1 x2 x3 x4 y0 y1 y2 y3 y4 f1 f2 f3 f4 f5 hbx hby B hto L1 L2
          go_wp2_with fail
          simp only [List.append]
          refine wp_region_far (B := W2.heap.size) (by kernel_rfl) (by kernel_rfl) ?_
          repeat (go_big_quiet_step (fail))
          refine wpQuiet_nil ?_
          rintro _ ⟨i, rfl⟩
          have BI2 := Lib.hid (BI.out.trans i.p)
          obtain ⟨W5, hW5⟩ : ∃ W5, i.v = W5 := ⟨_, rfl⟩
          rw [hW5] at BI2 ⊢
          clear hW5 X0 X1 X2 X3 X4 Y0 Y1 Y2 Y3
          go_wp2_with fail
          go_roundg (ds.length - (k + 1))
          case measure => omega
          case rel => exact ⟨k + 1, by omega, rfl, by go_num, BI2.out⟩
      · obtain rfl : k = ds.length := by omega
        have t1 : decide ((ds.length : Int) < (ds.length : Int)) = false := by rw [decide_eq_false_iff_not]; omega
        clear B
        go_wp2_with fail
        refine (HT.out wr).mono ?_
        rintro e W3 ⟨rfl, k3⟩
        have B3 := Lib.hid (below_next (below_next B2.out BI.out) k3)
        clear k3
        go_wp2_with fail
        go_ret
        exact ⟨rfl, B3.out⟩
end Go.Proofs.Ytglnofdncglmnaa
