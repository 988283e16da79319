/- CallsGo: the walk, over what the program's three calls say. -/
import Derived.Test.YtglnofdncglmnaaElaw1
namespace Go.Proofs.Ytglnofdncglmnaa
open Go.RowKit
set_option linter.unusedVariables false
set_option linter.unusedSimpArgs false
set_option maxRecDepth 100000

theorem errOf_no {r : Option (List Cal)} (h : r = none) : errOf r = 11 := by subst h; rfl
theorem far_int {B : Nat} {w wr : World} {ad : Addr} {k : Nat} {v : Value} (hb : ad.block < B) (h : wr.cell? (ad.add k) = some v) : ∀ i : Far B wr, i.v.cell? (ad.add k) = some v := fun i => (i.p.cell (by rw [block_of_add]; exact hb)).trans h
theorem far_at {B : Nat} {wr : World} {p : Addr} {v : Value} (hb : p.block < B) (h : wr.cell? p = some v) : ∀ i : Far B wr, i.v.cell? p = some v := fun i => (i.p.cell hb).trans h
theorem ord_at {cs : List Cal} {i : Nat} {v : Int} (h : (natI (orderI cs))[i]? = some v) : ∃ a : Nat, (orderI cs)[i]? = some a ∧ v = (a : Int) ∧ a < cs.length := by
  unfold natI at h
  rw [List.getElem?_map] at h
  rcases ho : (orderI cs)[i]? with _ | a
  · rw [ho] at h; cases h
  · rw [ho] at h
    injection h with h
    exact ⟨a, rfl, h.symm, (ord_mem.1 (List.mem_of_getElem? ho)).1⟩

set_option maxHeartbeats 8000000 in
theorem callsGo_walk (K : Words10) (A : Option Addr) (c : Nat) (l : List Ev) (w : World) (h : EvsIn w A c l) (hz : l.length * 168 ≤ 140737488351232) :
    Calls Try.prog 5 #[.slice A l.length c] w fun e w' => e = .returned (.bool true) ∧ Below w.heap.size w w' := by
  have HK := Lib.hid K
  have HT := Lib.hid (fun W => traced_is HK.out W)
  have hq := HK.out.of A c l w h hz
  have HCL := Lib.hid (calls_le (l := l))
  obtain ⟨r, hr⟩ : ∃ r, ofL l = r := ⟨_, rfl⟩
  rw [hr] at hq HCL
  have HR := Lib.hid hr
  clear K h hr
  go_enter Try.func5, Try.ntmps5
  go_wp2_with fail
  refine hq.mono ?_
  intro e W1 h1
  obtain ⟨A1, c1, rfl, r1, k1⟩ := told_all h1
  have B1 := Lib.hid k1
  have R1 := Lib.hid r1
  clear hq h1 r1 k1
  by_cases hbad : 300 < l.length ∨ r = none
  · have two : decide ((300 : Int) < (l.length : Int)) = true ∨ (decide ((300 : Int) < (l.length : Int)) = false ∧ errOf r = 11) := by
      by_cases h3 : 300 < l.length
      · exact .inl (by rw [decide_eq_true_eq]; omega)
      · refine .inr ⟨by rw [decide_eq_false_iff_not]; omega, ?_⟩
        rcases hbad with hb | hb
        · exact absurd hb h3
        · exact errOf_no hb
    clear hbad
    rcases two with d1 | ⟨d1, d2⟩
    · go_wp2_with fail
      refine (HT.out W1).mono ?_
      rintro e W2 ⟨rfl, k2⟩
      have B2 := Lib.hid (below_next B1.out k2)
      clear k2
      go_wp2_with fail
      go_ret
      exact ⟨rfl, B2.out⟩
    · rw [d2]
      clear d2
      go_wp2_with fail
      refine (HT.out W1).mono ?_
      rintro e W2 ⟨rfl, k2⟩
      have B2 := Lib.hid (below_next B1.out k2)
      clear k2
      go_wp2_with fail
      go_ret
      exact ⟨rfl, B2.out⟩
  · have n1 : l.length ≤ 300 := by omega
    have d1 : decide ((300 : Int) < (l.length : Int)) = false := by rw [decide_eq_false_iff_not]; omega
    obtain ⟨cs, rfl⟩ : ∃ cs, r = some cs := by
      rcases r with _ | cs
      · exact absurd (.inr rfl) hbad
      · exact ⟨cs, rfl⟩
    have hn : cs.length ≤ 300 := by have := HCL.out; rw [Option.getD_some] at this; omega
    have R1 : Hid (CalsIn W1 A1 c1 cs) := R1
    rw [show ((some cs).getD []).length = cs.length from rfl, show errOf (some cs) = 0 from rfl]
    have HINV := Lib.hid (inv_of (Nat.le_refl _) HR.out)
    have HGO := Lib.hid (fun (i k a b : Nat) (x y : Cal) h1 h2 h3 h4 h5 => go_order HR.out (i := i) (k := k) (a := a) (b := b) (x := x) (y := y) h1 h2 h3 h4 h5)
    have hq := HK.out.order A1 c1 cs W1 R1.out (by omega)
    clear hbad
    have hoa := fun i v => ord_at (cs := cs) (i := i) (v := v)
    obtain ⟨xs, hxs⟩ : ∃ xs, natI (orderI cs) = xs := ⟨_, rfl⟩
    have hlen : xs.length ≤ 300 := by
      rw [← hxs, natI_len]
      have := ord_len (l := cs) (k := cs.length)
      unfold orderI
      omega
    rw [hxs] at hq hoa
    have HOA := Lib.hid hoa
    clear hxs hoa
    go_wp2_with fail
    refine hq.mono ?_
    rintro e W2 ⟨A2, c2, rfl, r2, _, _, k2⟩
    have B2 := Lib.hid (below_next B1.out k2)
    have R2 := Lib.hid (R1.out.below k2)
    have O2 := Lib.hid r2
    clear hq k2 r2
    go_wp2_with fail
    go_loopg [6, 7] xs.length (fun g i k wr => ∃ n : Nat, n ≤ xs.length ∧ g = xs.length - n ∧ i = .int .i64 n ∧ Below W2.heap.size W2 wr)
    case atStart => exact ⟨0, Nat.zero_le _, rfl, rfl, Below.refl _ _⟩
    case round =>
      obtain ⟨n, hnl, rfl, rfl, B⟩ := hrel
      have BR := Lib.hid B
      clear B
      by_cases hlt : n < xs.length
      · have t1 : decide ((n : Int) < (xs.length : Int)) = true := by rw [decide_eq_true_eq]; omega
        have t1' : decide (n < xs.length) = true := decide_eq_true hlt
        go_wp2_with fail
        go_loopg [7] n (fun g k wi => ∃ m : Nat, m ≤ n ∧ g = n - m ∧ k = .int .i64 m ∧ Below W2.heap.size W2 wi)
        case atStart => exact ⟨0, Nat.zero_le _, rfl, rfl, BR.out⟩
        case round =>
          obtain ⟨m, hm, rfl, rfl, B⟩ := hrel
          have BI := Lib.hid B
          by_cases hmn : m < n
          · have t2 : decide ((m : Int) < (n : Int)) = true := by rw [decide_eq_true_eq]; omega
            have t2' : decide (m < n) = true := decide_eq_true hmn
            have hml : m < xs.length := by omega
            obtain ⟨a, ha, hax, hac⟩ := HOA.out n _ (List.getElem?_eq_getElem hlt)
            obtain ⟨b, hb, hbx, hbc⟩ := HOA.out m _ (List.getElem?_eq_getElem hml)
            obtain ⟨ado, rfl, hob, f1⟩ := (O2.out.below B).int hlt
            obtain ⟨_, e, _, f2⟩ := (O2.out.below B).int hml
            cases e
            rw [hax] at f1
            rw [hbx] at f2
            obtain ⟨adc, rfl, hcb, g1⟩ := cal_of (R2.out.r.below B) hac
            obtain ⟨_, e, _, g2⟩ := cal_of (R2.out.r.below B) hbc
            cases e
            have L1 := Lib.hid (load_at hcb g1)
            have L2 := Lib.hid (load_at hcb g2)
            have F1 := far_int (w := W2) hob f1
            have F2 := far_int (w := W2) hob f2
            have hgo := HGO.out _ _ _ _ _ _ hmn ha hb (List.getElem?_eq_getElem hac) (List.getElem?_eq_getElem hbc)
            obtain ⟨x, hx⟩ : ∃ x, cs[a] = x := ⟨_, rfl⟩
            obtain ⟨y, hy⟩ : ∃ y, cs[b] = y := ⟨_, rfl⟩
            rw [hx] at L1 hgo
            rw [hy] at L2 hgo
            have C1 := Lib.hid (fun W => HK.out.ahead x y W)
            rw [hgo] at C1
            have t3 : decide ((cs.length : Int) ≤ (a : Int)) = false := by rw [decide_eq_false_iff_not]; omega
            have t3' : decide (cs.length ≤ a) = false := by rw [decide_eq_false_iff_not]; omega
            have t4 : decide ((cs.length : Int) ≤ (b : Int)) = false := by rw [decide_eq_false_iff_not]; omega
            have t4' : decide (cs.length ≤ b) = false := by rw [decide_eq_false_iff_not]; omega
            have t5 : decide ((a : Int) < 0) = false := by rw [decide_eq_false_iff_not]; omega
            have t6 : decide ((b : Int) < 0) = false := by rw [decide_eq_false_iff_not]; omega
            have hsz := BI.out.size
            clear ha hax hb hbx f1 f2 g1 g2 hgo hx hy B
            go_wp2_with fail
            refine wp_region_far (B := W2.heap.size) (by kernel_rfl) (by kernel_rfl) ?_
            iterate 37 go_big_quiet_step (fail)
            refine wpQuiet_load rfl (.tmp 72) 40 rfl _ _ rfl L1.out ?_
            simp only [Act.put, List.setIfInBounds_toArray, List.set_cons_zero, List.set_cons_succ]
            iterate 6 go_big_quiet_step (fail)
            refine wpQuiet_load rfl (.tmp 79) 40 rfl _ _ rfl L2.out ?_
            simp only [Act.put, List.setIfInBounds_toArray, List.set_cons_zero, List.set_cons_succ]
            go_big_quiet_step (exact far_says hsz _ C1.out)
            iterate 1 go_big_quiet_step (fail)
            refine wpQuiet_nil ?_
            rintro _ ⟨i, rfl⟩
            have BI2 := Lib.hid (BI.out.trans i.p)
            obtain ⟨W5, hW5⟩ : ∃ W5, i.v = W5 := ⟨_, rfl⟩
            rw [hW5] at BI2 ⊢
            clear hW5 L1 L2 F1 F2 C1 hsz
            go_wp2_with fail
            go_roundg (n - (m + 1))
            case measure => omega
            case rel => exact ⟨m + 1, by omega, rfl, by go_num, BI2.out⟩
          · obtain rfl : m = n := by omega
            have t2 : decide ((m : Int) < (m : Int)) = false := by rw [decide_eq_false_iff_not]; omega
            clear B
            go_wp2_with fail
            go_roundg (xs.length - (m + 1))
            case measure => omega
            case rel => exact ⟨m + 1, by omega, rfl, by go_num, BI.out⟩
      · obtain rfl : n = xs.length := by omega
        have t1 : decide ((xs.length : Int) < (xs.length : Int)) = false := by rw [decide_eq_false_iff_not]; omega
        have BL := Lib.hid BR.out
        clear O2 HOA HGO BR
        go_wp2_with fail
        go_loopg [8, 9] cs.length (fun g i k wi => ∃ n : Nat, n ≤ cs.length ∧ g = cs.length - n ∧ i = .int .i64 n ∧ Below W2.heap.size W2 wi)
        case atStart => exact ⟨0, Nat.zero_le _, rfl, rfl, BL.out⟩
        case round =>
          obtain ⟨n, hnl, rfl, rfl, B⟩ := hrel
          have BR := Lib.hid B
          clear B BL
          by_cases hlt : n < cs.length
          · have t1 : decide ((n : Int) < (cs.length : Int)) = true := by rw [decide_eq_true_eq]; omega
            have t1' : decide (n < cs.length) = true := decide_eq_true hlt
            go_wp2_with fail
            go_loopg [9] n (fun g k wi => ∃ m : Nat, m ≤ n ∧ g = n - m ∧ k = .int .i64 m ∧ Below W2.heap.size W2 wi)
            case atStart => exact ⟨0, Nat.zero_le _, rfl, rfl, BR.out⟩
            case round =>
              obtain ⟨m, hm, rfl, rfl, B⟩ := hrel
              have BI := Lib.hid B
              by_cases hmn : m < n
              · have t2 : decide ((m : Int) < (n : Int)) = true := by rw [decide_eq_true_eq]; omega
                have t2' : decide (m < n) = true := decide_eq_true hmn
                have hml : m < cs.length := by omega
                have tl : decide (m < cs.length) = true := decide_eq_true hml
                obtain ⟨adc, rfl, hcb, g1⟩ := cal_of (R2.out.r.below B) hml
                obtain ⟨_, e, _, g2⟩ := cal_of (R2.out.r.below B) hlt
                cases e
                have L1 := Lib.hid (load_at hcb g1)
                have L2 := Lib.hid (load_at hcb g2)
                obtain ⟨p0, _, p2, _⟩ := cal_at g1
                obtain ⟨q0, _, q2, _⟩ := cal_at g2
                have hri := HINV.out.rise m n _ _ hmn (List.getElem?_eq_getElem hml) (List.getElem?_eq_getElem hlt)
                have hap := HINV.out.apart m n _ _ hmn (List.getElem?_eq_getElem hml) (List.getElem?_eq_getElem hlt)
                obtain ⟨x, hx⟩ : ∃ x, cs[m] = x := ⟨_, rfl⟩
                obtain ⟨y, hy⟩ : ∃ y, cs[n] = y := ⟨_, rfl⟩
                rw [hx] at L1 p0 p2 hri hap
                rw [hy] at L2 q0 q2 hri hap
                have hcb' : ∀ j, ((adc.add j).block) < W2.heap.size := fun j => by rw [block_of_add]; exact hcb
                have F0 := far_at (hcb' _) p0
                have F2 := far_at (B := W2.heap.size) (p := ⟨(adc.add (m * 18)).block, (adc.add (m * 18)).off + 2, none⟩) (hcb' _) p2
                have G0 := far_at (hcb' _) q0
                have G2 := far_at (B := W2.heap.size) (p := ⟨(adc.add (n * 18)).block, (adc.add (n * 18)).off + 2, none⟩) (hcb' _) q2
                obtain ⟨d, hd⟩ : ∃ d, (x.thread == y.thread) = d := ⟨_, rfl⟩
                have t3 : decide (y.frm ≤ x.frm) = false := by rw [decide_eq_false_iff_not]; omega
                have C1 : Hid (d = true → ∀ W, Calls Try.prog 16 #[x.val, y.val] W (Says W true)) := Lib.hid fun hd1 W => by
                  have hth : x.thread = y.thread := by rw [hd1] at hd; simpa using hd
                  have h2 := HK.out.ahead x y W
                  rw [show aheadB x y = true by
                    have := hap hth
                    unfold aheadB
                    rw [Bool.and_eq_true, decide_eq_true_eq]
                    exact ⟨by simp; omega, this.2⟩] at h2
                  exact h2
                have hsz := BI.out.size
                clear g1 g2 p0 p2 q0 q2 hri hap hx hy hcb' B
                cases d with
                | false =>
                  go_wp2_with fail
                  refine wp_region_far (B := W2.heap.size) (by kernel_rfl) (by kernel_rfl) ?_
                  repeat (go_big_quiet_step (fail))
                  refine wpQuiet_nil ?_
                  rintro _ ⟨i, rfl⟩
                  have BI2 := Lib.hid (BI.out.trans i.p)
                  obtain ⟨W5, hW5⟩ : ∃ W5, i.v = W5 := ⟨_, rfl⟩
                  rw [hW5] at BI2 ⊢
                  clear hW5 L1 L2 F0 F2 G0 G2 C1 hsz
                  go_wp2_with fail
                  go_roundg (n - (m + 1))
                  case measure => omega
                  case rel => exact ⟨m + 1, by omega, rfl, by go_num, BI2.out⟩
                | true =>
                  have C2 : Hid (∀ W, Calls Try.prog 16 #[x.val, y.val] W (Says W true)) := Lib.hid (C1.out rfl)
                  clear C1
                  go_wp2_with fail
                  refine wp_region_far (B := W2.heap.size) (by kernel_rfl) (by kernel_rfl) ?_
                  iterate 15 go_big_quiet_step (fail)
                  refine wpQuiet_load rfl (.tmp 108) 40 rfl _ _ rfl L1.out ?_
                  simp only [Act.put, List.setIfInBounds_toArray, List.set_cons_zero, List.set_cons_succ]
                  iterate 3 go_big_quiet_step (fail)
                  refine wpQuiet_load rfl (.tmp 112) 40 rfl _ _ rfl L2.out ?_
                  simp only [Act.put, List.setIfInBounds_toArray, List.set_cons_zero, List.set_cons_succ]
                  go_big_quiet_step (exact far_says hsz _ C2.out)
                  iterate 15 go_big_quiet_step (fail)
                  refine wpQuiet_nil ?_
                  rintro _ ⟨i, rfl⟩
                  have BI2 := Lib.hid (BI.out.trans i.p)
                  obtain ⟨W5, hW5⟩ : ∃ W5, i.v = W5 := ⟨_, rfl⟩
                  rw [hW5] at BI2 ⊢
                  clear hW5 L1 L2 F0 F2 G0 G2 C2 hsz
                  go_wp2_with fail
                  go_roundg (n - (m + 1))
                  case measure => omega
                  case rel => exact ⟨m + 1, by omega, rfl, by go_num, BI2.out⟩
              · obtain rfl : m = n := by omega
                have t2 : decide ((m : Int) < (m : Int)) = false := by rw [decide_eq_false_iff_not]; omega
                clear B
                go_wp2_with fail
                go_roundg (cs.length - (m + 1))
                case measure => omega
                case rel => exact ⟨m + 1, by omega, rfl, by go_num, BI.out⟩
          · obtain rfl : n = cs.length := by omega
            have t1 : decide ((cs.length : Int) < (cs.length : Int)) = false := by rw [decide_eq_false_iff_not]; omega
            go_wp2_with fail
            refine (HT.out wr).mono ?_
            rintro e W9 ⟨rfl, k9⟩
            have B9 := Lib.hid (below_next (below_next B2.out BR.out) k9)
            clear k9
            go_wp2_with fail
            go_ret
            exact ⟨rfl, B9.out⟩
end Go.Proofs.Ytglnofdncglmnaa
