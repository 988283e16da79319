/- ShardMany: the walk, over what the program's four calls say. -/
import Derived.Test.YtbbcgcinpodhkaaFlaw2
namespace Go.Proofs.Ytbbcgcinpodhkaa
open Go.RowKit
set_option linter.unusedVariables false
set_option linter.unusedSimpArgs false
set_option maxRecDepth 100000

theorem two_of {l : List Int} (h : l.length = 2) : ∃ a b, l = [a, b] := by
  match l, h with
  | [a, b], _ => exact ⟨a, b, rfl⟩
/-- A row of two numbers: its cells. -/
theorem row_two {w : World} {B : Nat} {r : Rw} {x y : Int} (h : RwIn .i64 w B r) (hl : r.l = [x, y]) : ∃ rd, r.a = some rd ∧ rd.block < B ∧ w.cell? rd = some (.int .i64 x) ∧ w.cell? ⟨rd.block, rd.off + 1, none⟩ = some (.int .i64 y) ∧ I64 x ∧ I64 y := by
  have h0 := h.rd
  have hw := h.wf
  rw [hl] at h0 hw
  obtain ⟨rd, e, hb, hc⟩ := h0 (by simp)
  refine ⟨rd, e, hb, ?_, by have := hc 1 _ rfl; rwa [Addr.add_succ'] at this, i64_of (hw x (by simp)), i64_of (hw y (by simp))⟩
  have := hc 0 _ rfl
  rwa [Addr.add_zero'] at this

set_option maxHeartbeats 16000000 in
theorem shardMany_walk (K : Words11) (t : Int) (A : Option Addr) (c : Nat) (as_ : List Rw) (w : World) (ht : (Lit.int .i64 t).wf = true) (h : GridIn .i64 w A c as_) :
    Calls Try.prog 6 #[.int .i64 t, .slice A as_.length c] w fun e w' => e = .returned (.bool true) ∧ Below w.heap.size w w' := by
  have HK := Lib.hid K
  have HT := Lib.hid (fun W => counted_is HK.out W)
  have VT := Lib.hid (i64_of ht)
  have m1 := Nat.le_trans h.lc h.cm
  unfold maxLen at m1
  have hq := HK.out.newG t w VT.out
  obtain ⟨en, hen⟩ : ∃ e, (newC t).2 = e := ⟨_, rfl⟩
  have HEN := Lib.hid hen
  have H0 := Lib.hid h
  clear K ht h hen
  go_enter Try.func6, Try.ntmps6
  go_wp2_with fail
  refine hq.mono ?_
  intro e W1 h1
  obtain ⟨A1, c1, r1, rfl, g1, v1, k1⟩ := grid_all h1
  rw [HEN.out]
  have B1 := Lib.hid k1
  have H1 := Lib.hid (H0.out.below k1)
  have G1 := Lib.hid g1
  have V1 := Lib.hid v1
  clear hq h1 g1 v1 k1
  by_cases hbad : en ≠ 0 ∨ 300 < as_.length
  · have two : (en != 0) = true ∨ ((en != 0) = false ∧ decide ((300 : Int) < (as_.length : Int)) = true) := by
      by_cases h1 : en = 0
      · refine .inr ⟨by rw [h1]; rfl, ?_⟩
        rw [decide_eq_true_eq]
        rcases hbad with hb | hb
        · exact absurd h1 hb
        · omega
      · exact .inl (by simpa using h1)
    clear hbad
    rcases two with d1 | ⟨d1, d2⟩
    all_goals
      go_wp2_with fail
      refine (HT.out W1).mono ?_
      rintro e W3 ⟨rfl, k1⟩
      have B3 := Lib.hid (below_next B1.out k1)
      clear k1
      go_wp2_with fail
      go_ret
      exact ⟨rfl, B3.out⟩
  · obtain rfl : en = 0 := Classical.byContradiction fun h => hbad (.inl h)
    have h300 : as_.length ≤ 300 := Nat.le_of_not_lt fun h => hbad (.inr h)
    have d2 : decide ((300 : Int) < (as_.length : Int)) = false := by rw [decide_eq_false_iff_not]; omega
    obtain ⟨n1, n2, n3, n4, n5⟩ := isC_new HEN.out
    obtain ⟨T, rfl⟩ : ∃ T : Nat, t = (T : Int) := ⟨t.toNat, by omega⟩
    rw [Int.toNat_natCast] at n2
    have N1 : Hid (isC (valsOf r1) = true) := Lib.hid (by rw [V1.out]; exact n1)
    have N2 : Hid (r1.length = T) := Lib.hid (by rw [← vals_len, V1.out]; exact n2)
    have N5 : Hid (sums (valsOf r1) = zero6) := Lib.hid (by rw [V1.out]; exact n5)
    have hT8 : T ≤ 8 := by omega
    obtain ⟨X, hX⟩ : ∃ X, (.cells #[.int .u64 0, .int .u64 0, .int .u64 0, .int .u64 0, .int .u64 0, .int .u64 0] 28 (0, 0) : Obj) = X := ⟨_, rfl⟩
    obtain ⟨W2, hW2⟩ : ∃ W2, W1.alloc X = W2 := ⟨_, rfl⟩
    have k4 : Below W1.heap.size W1 W2 := by rw [← hW2]; exact boxed W1 X
    have B2 := Lib.hid (below_next B1.out k4)
    have G2 := Lib.hid (G1.out.below k4)
    have S2 : Hid (SixAt W2 W1.heap.size (sums (valsOf r1))) := Lib.hid (by rw [N5.out, ← hW2, ← hX]; exact heap_alloc_new _ _)
    rw [← hX] at hW2
    have HW2 := Lib.hid hW2
    have hnw : Hid (w.heap.size ≤ W1.heap.size) := Lib.hid B1.out.size
    clear hbad n1 n2 n3 n4 n5 k4 hX hW2
    go_wp2_with fail
    rw [HW2.out]
    go_loopg [5, 8, 9, 10] as_.length (fun g cv i u9 u10 wr => ∃ (m : Nat) (A : Option Addr) (c : Nat) (rs : List Rw), m ≤ as_.length ∧ g = as_.length - m ∧ i = .int .i64 m ∧ cv = .slice A rs.length c ∧ GridIn .u64 wr A c rs ∧ Sep W1.heap.size A rs ∧ isC (valsOf rs) = true ∧ rs.length = T ∧ SixAt wr W1.heap.size (sums (valsOf rs)) ∧ Below w.heap.size w wr)
    case atStart => exact ⟨0, A1, c1, r1, Nat.zero_le _, rfl, rfl, rfl, G2.out, G1.out.sep, N1.out, N2.out, S2.out, B2.out⟩
    case round =>
      clear S2 G2 B2 N1 N2 N5 HW2 G1 V1 HEN
      obtain ⟨m, A2, c2, rs, hm, rfl, rfl, rfl, g2, p2, n1, n2, s2, B⟩ := hrel
      have P2 := Lib.hid p2
      have G2 := Lib.hid g2
      have N1 := Lib.hid n1
      have N2 := Lib.hid n2
      have S2 := Lib.hid s2
      have BR := Lib.hid B
      by_cases hlt : m < as_.length
      · have t1 : decide ((m : Int) < (as_.length : Int)) = true := by rw [decide_eq_true_eq]; omega
        have t1' : decide (m < as_.length) = true := decide_eq_true hlt
        obtain ⟨ad, hAd, b0, f0, hrw⟩ := (H0.out.below B).row hlt
        obtain ⟨x, hx⟩ : ∃ x, as_[m] = x := ⟨_, rfl⟩
        obtain ⟨_, e, b0', _, _⟩ := H0.out.row hlt
        rw [hAd] at e
        cases e
        rw [hx] at f0 hrw
        subst hAd
        have hxl : x.l.length ≤ 9223372036854775807 := by have := Nat.le_trans hrw.lc hrw.cm; unfold maxLen at this; omega
        have HRW := Lib.hid hrw
        clear hx g2 p2 n1 n2 s2 hrw b0
        by_cases h2 : x.l.length = 2
        · have t2 : ((x.l.length : Int) != 2) = false := by rw [h2]; rfl
          obtain ⟨y, z, hyz⟩ := two_of h2
          obtain ⟨rd, hrd, hrb, u0, u1, hy64, hz64⟩ := row_two HRW.out hyz
          rw [hrd] at f0
          have F0 := far_cell (B := wr.heap.size) (p := ad.add m) (by rw [block_of_add]; exact Nat.lt_of_lt_of_le b0' B.size) f0
          have U0 := far_cell (B := wr.heap.size) (p := rd) hrb u0
          have U1 := far_cell (B := wr.heap.size) (p := ⟨rd.block, rd.off + 1, none⟩) hrb u1
          have l1 : (1 : Int) < (x.l.length : Int) := by omega
          have l2 : 1 < x.l.length := by omega
          have l3 : 0 < x.l.length := by omega
          have l4 : (0 : Int) < (x.l.length : Int) := by omega
          have hq := HK.out.add A2 c2 rs y z
          have HQ := Lib.hid hq
          have HB := Lib.hid B
          clear hyz hrd h2 hq B
          go_wp2_with fail
          refine wp_region_seg (C := fun w' => ∃ i : Far wr.heap.size wr, w' = i.v) 13 (by kernel_rfl) (by kernel_rfl) (by rfl) (by kernel_rfl) (by kernel_rfl) ⟨⟨_, (Below.refl _ _).drew⟩, rfl⟩ ?_
          simp only [List.take]
          iterate 13 go_big_quiet_step (fail)
          refine wpQuiet_nil ?_
          rintro _ ⟨i, rfl⟩
          have G3 := Lib.hid (G2.out.below i.p)
          have S3 := Lib.hid (S2.out.below i.p (block_lt S2.out))
          have B3 := Lib.hid (BR.out.trans (i.p.mono BR.out.size))
          have U0' := U0 i
          have K3 := Lib.hid i.p
          obtain ⟨W3, hW3⟩ : ∃ W3, i.v = W3 := ⟨_, rfl⟩
          rw [hW3] at G3 S3 B3 K3 ⊢
          clear U0'
          have hq := HQ.out W3 G3.out hy64 hz64
          refine wpAny_next (f := 5) (k := 13) (by kernel_rfl) rfl (fun K hK => ?_)
          go_simp
          refine hq.mono ?_
          intro e W4 h1
          obtain ⟨A4, c4, r4, rfl, g4, v4, p4, k1⟩ := gridS_all h1
          have P4 : Hid (Sep W1.heap.size A4 r4) := Lib.hid (p4 _ (block_lt S3.out) P2.out)
          have G4 := Lib.hid g4
          have V4 := Lib.hid v4
          have G3 := Lib.hid (G3.out.below k1)
          have S4 := Lib.hid (S3.out.below k1 (block_lt S3.out))
          have B4 := Lib.hid (B3.out.trans (k1.mono B3.out.size))
          have K4 := Lib.hid (below_next K3.out k1)
          clear hq h1 g4 v4 p4 k1 S3 B3 K3
          obtain ⟨er, her⟩ : ∃ er, (addC (valsOf rs) y z).2 = er := ⟨_, rfl⟩
          have HER := Lib.hid her
          rw [her]
          clear her
          refine hK.out _ _ ?_
          clear hK
          refine wpAny_seg (C := fun w' => ∃ i : Far W4.heap.size W4, w' = i.v) 14 5 0 (by kernel_rfl) (by rfl) (by kernel_rfl) (by kernel_rfl) (by kernel_rfl) (by kernel_rfl) ⟨⟨_, Below.refl _ _⟩, rfl⟩ ?_
          simp only [List.take, List.drop]
          iterate 5 go_big_quiet_step (fail)
          refine wpQuiet_nil ?_
          rintro _ ⟨i, rfl⟩
          have G3 := Lib.hid (G3.out.below i.p)
          have G5 := Lib.hid (G4.out.below i.p)
          have S5 := Lib.hid (S4.out.below i.p (block_lt S4.out))
          have B5 := Lib.hid (B4.out.trans (i.p.mono B4.out.size))
          have K5 := Lib.hid (below_next K4.out i.p)
          obtain ⟨W5, hW5⟩ : ∃ W5, i.v = W5 := ⟨_, rfl⟩
          rw [hW5] at G3 G5 S5 B5 K5 ⊢
          clear hW5 G4 S4 B4 K4 F0 U0 U1
          refine wpAny_end (by kernel_rfl) ?_ _
          have f0 := (K5.out.cell (p := ad.add m) (by rw [block_of_add]; exact Nat.lt_of_lt_of_le b0' HB.out.size)).trans f0
          have u0 := (K5.out.cell (p := rd) hrb).trans u0
          have u1 := (K5.out.cell (p := ⟨rd.block, rd.off + 1, none⟩) hrb).trans u1
          by_cases hok : okAdd (valsOf rs) y z
          · have hadd := add_yes hok
            have her : er = 0 := by rw [← HER.out, hadd]
            subst her
            have hv := V4.out
            rw [hadd] at hv
            have hv : valsOf r4 = addV (valsOf rs) y.toNat z.toNat := hv
            obtain ⟨o1, o2, o3, o4, o5⟩ := hok
            obtain ⟨z, rfl⟩ : ∃ n : Nat, z = (n : Int) := ⟨z.toNat, by omega⟩
            rw [Int.toNat_natCast] at hv
            have hz6 : z < 6 := by omega
            have N4 : Hid (isC (valsOf r4) = true) := Lib.hid (by rw [hv]; exact isC_add o1)
            have L4 : Hid (r4.length = T) := Lib.hid (by rw [← vals_len, hv, addV_len, vals_len]; exact N2.out)
            have HSET : Hid (sums (valsOf r4) = (sums (valsOf rs)).set z ((sumK (valsOf rs) z + 1) % 18446744073709551616)) := Lib.hid (by
              rw [hv, sums_add (by omega) hz6 (isC_iff.1 o1).1])
            obtain ⟨s, hs⟩ : ∃ s, sumK (valsOf rs) z = s := ⟨_, rfl⟩
            have hcell : W5.cell? ⟨W1.heap.size, z, none⟩ = some (.int .u64 s) := by
              rw [S5.out.cell z, sums_at _ hz6, hs]
              rfl
            rw [hs] at HSET
            have F0 := far_cell (B := W5.heap.size) (p := ad.add m) (by rw [block_of_add]; exact Nat.lt_of_lt_of_le b0' B5.out.size) f0
            have U1 := far_cell (B := W5.heap.size) (p := ⟨rd.block, rd.off + 1, none⟩) (Nat.lt_of_lt_of_le hrb K5.out.size) u1
            have hb1 := block_lt S5.out
            have F4 := far_cell (B := W5.heap.size) (p := ⟨W1.heap.size, z, none⟩) hb1 hcell
            have Z4 : ∀ i : Far W5.heap.size W5, i.v.frozen? ⟨W1.heap.size, z, none⟩ = false := fun i => (i.p.frozen (p := ⟨W1.heap.size, z, none⟩) hb1).trans (S5.out.free z)
            have HB1 := Lib.hid hb1
            clear hadd hv o1 o2 o3 o4 o5 hs hcell f0 u0 u1 hb1 hy64 hz64 HER
            go_wp2_with fail
            refine wp_region_seg (C := fun w' => ∃ i : Far W5.heap.size W5, w' = i.v) 16 (by kernel_rfl) (by kernel_rfl) (by rfl) (by kernel_rfl) (by kernel_rfl) ⟨⟨_, (Below.refl _ _).drew⟩, rfl⟩ ?_
            simp only [List.take]
            iterate 16 go_big_quiet_step (fail)
            refine wpQuiet_nil ?_
            rintro _ ⟨i, rfl⟩
            have f4 := F4 i
            have z4 := Z4 i
            have hst := (S5.out.below i.p HB1.out).set z ((s + 1) % 18446744073709551616)
            rw [← HSET.out] at hst
            have S6 := Lib.hid hst
            have k6 : Below W1.heap.size W5 (i.v.setCell ⟨W1.heap.size, z, none⟩ (.int .u64 ((s + 1) % 18446744073709551616))) := (i.p.mono (Nat.le_of_lt HB1.out)).setCell (p := ⟨W1.heap.size, z, none⟩) (Nat.le_refl _) _
            have B6 := Lib.hid (B5.out.trans (k6.mono hnw.out))
            have G6 : Hid (GridIn .u64 (i.v.setCell ⟨W1.heap.size, z, none⟩ (.int .u64 ((s + 1) % 18446744073709551616))) A4 c4 r4) := Lib.hid ((G5.out.below i.p).store P4.out)
            obtain ⟨W6, hW6⟩ : ∃ W6, i.v = W6 := ⟨_, rfl⟩
            rw [hW6] at f4 z4 S6 B6 G6 ⊢
            clear hst F0 U1 F4 Z4 hW6 HSET k6
            refine wpAny_next (f := 0) (k := 16) (by kernel_rfl) rfl (fun K hK => ?_)
            go_simp
            refine hK.out _ _ ?_
            clear hK
            refine wpAny_end (by kernel_rfl) ?_ _
            clear f4 z4
            go_wp2_with fail
            go_roundg (as_.length - (m + 1))
            case measure => omega
            case rel => exact ⟨m + 1, A4, c4, r4, by omega, rfl, by go_num, rfl, G6.out, P4.out, N4.out, L4.out, S6.out, B6.out⟩
          · have her : er = 1 := by rw [← HER.out]; unfold addC; rw [if_neg hok]
            subst her
            obtain ⟨d1, hd1⟩ : ∃ d, decide (0 ≤ y) = d := ⟨_, rfl⟩
            obtain ⟨d3, hd3⟩ : ∃ d, decide (y < (T : Int)) = d := ⟨_, rfl⟩
            obtain ⟨d4, hd4⟩ : ∃ d, decide (0 ≤ z) = d := ⟨_, rfl⟩
            obtain ⟨d5, hd5⟩ : ∃ d, decide (z < 6) = d := ⟨_, rfl⟩
            have four : d1 = false ∨ (d1 = true ∧ d3 = false) ∨ (d1 = true ∧ d3 = true ∧ d4 = false) ∨ (d1 = true ∧ d3 = true ∧ d4 = true ∧ d5 = false) := by
              have hno : ¬ (0 ≤ y ∧ y < T ∧ 0 ≤ z ∧ z < 6) := fun ⟨a1, a2, a3, a4⟩ => hok ⟨N1.out, a1, by rw [vals_len, N2.out]; exact a2, a3, a4⟩
              subst hd1 hd3 hd4 hd5
              simp only [decide_eq_true_eq, decide_eq_false_iff_not]
              omega
            clear hok HER hy64 hz64
            rcases four with rfl | ⟨rfl, rfl⟩ | ⟨rfl, rfl, rfl⟩ | ⟨rfl, rfl, rfl, rfl⟩
            all_goals
              go_wp2_with fail
              go_roundg (as_.length - (m + 1))
              case measure => omega
              case rel => exact ⟨m + 1, A2, c2, rs, by omega, rfl, by go_num, rfl, G3.out, P2.out, N1.out, N2.out, S5.out, B5.out⟩
        · have t2 : ((x.l.length : Int) != 2) = true := by rw [bne_iff_ne]; omega
          clear h2 B
          go_wp2_with fail
          refine (HT.out wr).mono ?_
          rintro e W3 ⟨rfl, k1⟩
          have B3 := Lib.hid (below_next BR.out k1)
          clear k1
          go_wp2_with fail
          go_ret
          exact ⟨rfl, B3.out⟩
      · obtain rfl : m = as_.length := by omega
        have t1 : decide ((as_.length : Int) < (as_.length : Int)) = false := by rw [decide_eq_false_iff_not]; omega
        clear g2 p2 n1 n2 s2 B H0 H1 VT
        obtain ⟨x0, x1, x2, x3, x4, x5, hx⟩ : ∃ a b c d e f, sums (valsOf rs) = [a, b, c, d, e, f] := by
          have := sums_len (valsOf rs)
          match h : sums (valsOf rs), this with
          | [a, b, c, d, e, f], _ => exact ⟨a, b, c, d, e, f, rfl⟩
        have HX := Lib.hid hx
        have HS1 : Hid (sumC (valsOf rs) = ([x0, x1, x2, x3, x4, x5], 0)) := Lib.hid (by unfold sumC; rw [if_pos N1.out, HX.out])
        have S2 : Hid (SixAt wr W1.heap.size [x0, x1, x2, x3, x4, x5]) := Lib.hid (by rw [← HX.out]; exact S2.out)
        have hq := HK.out.sum A2 c2 rs wr G2.out
        rw [HS1.out] at hq
        clear hx HS1
        go_wp2_with fail
        refine hq.mono ?_
        intro e W2 h1
        obtain ⟨rfl, k1⟩ := sum_lit h1
        have B2 := Lib.hid (below_next BR.out k1)
        have G2 := Lib.hid (G2.out.below k1)
        have S2 := Lib.hid (S2.out.below k1 (block_lt S2.out))
        clear hq h1 k1
        obtain ⟨X, hX⟩ : ∃ X, (.cells #[.int .u64 x0, .int .u64 x1, .int .u64 x2, .int .u64 x3, .int .u64 x4, .int .u64 x5] 28 (0, 0) : Obj) = X := ⟨_, rfl⟩
        obtain ⟨W3, hW3⟩ : ∃ W3, W2.alloc X = W3 := ⟨_, rfl⟩
        have k4 : Below W2.heap.size W2 W3 := by rw [← hW3]; exact boxed W2 X
        have B3 := Lib.hid (below_next B2.out k4)
        have G3 := Lib.hid (G2.out.below k4)
        have S3 := Lib.hid (S2.out.below k4 (block_lt S2.out))
        have T3 : Hid (SixAt W3 W2.heap.size [x0, x1, x2, x3, x4, x5]) := Lib.hid (by rw [← hW3, ← hX]; exact heap_alloc_new _ _)
        have hq := HT.out W3
        rw [← hX] at hW3
        have HW3 := Lib.hid hW3
        rw [← hW3] at hq
        clear k4 hX hW3
        go_wp2_with fail
        refine hq.mono ?_
        rw [HW3.out]
        rintro e W4 ⟨rfl, k1⟩
        have B4 := Lib.hid (below_next B3.out k1)
        have G4 := Lib.hid (G3.out.below k1)
        have S4 := Lib.hid (S3.out.below k1 (block_lt S3.out))
        have T4 := Lib.hid (T3.out.below k1 (block_lt T3.out))
        clear hq k1 HW3 S3 T3
        have heq := fun W => six_same x0 x1 x2 x3 x4 x5 W
        obtain ⟨q0, q1, q2, q3, q4, q5⟩ := six_cells S4.out
        obtain ⟨s0, s1, s2, s3, s4, s5⟩ := six_cells T4.out
        have hq := HK.out.is A2 c2 rs W4 G4.out
        rw [N1.out] at hq
        go_wp2_with fail
        refine hq.mono ?_
        rintro e W5 ⟨rfl, k1⟩
        have B5 := Lib.hid (below_next B4.out k1)
        clear hq k1 q0 q1 q2 q3 q4 q5 s0 s1 s2 s3 s4 s5 heq
        go_wp2_with fail
        go_ret
        exact ⟨rfl, B5.out⟩
end Go.Proofs.Ytbbcgcinpodhkaa
