/- CallsOf, CallsOrder: the walks, over what the program's three calls say. -/
import Derived.Test.YtglnofdncglmnaaEtraced
namespace Go.Proofs.Ytglnofdncglmnaa
open Go.RowKit
set_option linter.unusedVariables false
set_option linter.unusedSimpArgs false
set_option maxRecDepth 100000

theorem told_all {w w' : World} {r : Option (List Cal)} {e : Ending} (h : Told10 w r e w') : ∃ A cap, e = .returned (.tuple #[.slice A (r.getD []).length cap, .int .i64 (errOf r)]) ∧ CalsIn w' A cap (r.getD []) ∧ Below w.heap.size w w' := by
  obtain ⟨hb, A, cap, rfl, hc⟩ := h
  exact ⟨A, cap, rfl, hc, hb⟩
theorem calls_le {l : List Ev} : ((ofL l).getD []).length ≤ l.length := by
  rcases h : ofL l with _ | c
  · simp
  · rw [Option.getD_some, (count_of (Nat.le_refl _) h).1]
    unfold begun
    exact Nat.le_trans List.countP_le_length (by rw [List.take_length]; exact Nat.le_refl _)

set_option maxHeartbeats 4000000 in
theorem callsOf_walk (K : Words10) (A : Option Addr) (c : Nat) (l : List Ev) (w : World) (h : EvsIn w A c l) :
    Calls Try.prog 3 #[.slice A l.length c] w fun e w' => e = .returned (.bool true) ∧ Below w.heap.size w w' := by
  have HK := Lib.hid K
  have H := Lib.hid h
  have m1 := Nat.le_trans h.lc h.cm
  unfold maxLen at m1
  obtain ⟨d1, hd1⟩ : ∃ d, decide ((300 : Int) < (l.length : Int)) = d := ⟨_, rfl⟩
  clear K h
  go_enter Try.func3, Try.ntmps3
  cases d1 with
  | true =>
    go_wp2_with fail
    go_ret
    exact ⟨rfl, Below.refl _ _⟩
  | false =>
  have n1 : l.length ≤ 300 := by have := of_decide_eq_false hd1; omega
  have hq := HK.out.of A c l w H.out (by omega)
  have HCL := Lib.hid (calls_le (l := l))
  obtain ⟨r, hr⟩ : ∃ r, ofL l = r := ⟨_, rfl⟩
  rw [hr] at hq HCL
  have HR := Lib.hid hr
  clear hr
  go_wp2_with fail
  refine hq.mono ?_
  intro e W1 h1
  obtain ⟨A1, c1, rfl, r1, k1⟩ := told_all h1
  have B1 := Lib.hid k1
  have R1 := Lib.hid r1
  have hq := rof_is A c l W1 (H.out.below k1) (by omega)
  rw [HR.out] at hq
  clear h1 r1 k1
  go_wp2_with fail
  refine hq.mono ?_
  intro e W2 h1
  obtain ⟨A2, c2, rfl, r2, k2⟩ := told_all h1.told
  have B2 := Lib.hid (below_next B1.out k2)
  have R1 := Lib.hid (R1.out.below k2)
  have R2 := Lib.hid r2
  clear hq h1 r2 k2
  have hq := traced_is HK.out W2
  go_wp2_with fail
  refine hq.mono ?_
  rintro e W3 ⟨rfl, k3⟩
  have B3 := Lib.hid (below_next B2.out k3)
  have R1 := Lib.hid (R1.out.below k3)
  have R2 := Lib.hid (R2.out.below k3)
  clear hq k3
  have hq := rsame_is A1 A2 c1 c2 (r.getD []) W3 R1.out.r R2.out.r (by have := HCL.out; omega)
  go_wp2_with fail
  refine hq.mono ?_
  rintro e W4 ⟨rfl, k4⟩
  have B4 := Lib.hid (below_next B3.out k4)
  clear hq k4
  go_wp2_with fail
  go_ret
  exact ⟨rfl, B4.out⟩

theorem far_says {f : FuncId} {args : Array Value} {b : Bool} {B : Nat} {w : World} (hB : B ≤ w.heap.size) (i : Far B w) (h : ∀ W, Calls Try.prog f args W (Says W b)) : Calls Try.prog f args i.v fun e w'' => e = .returned (.bool b) ∧ ∃ j : Far B w, w'' = j.v :=
  far_call i ((h i.v).mono fun e w' ⟨he, hb⟩ => ⟨he, hb.mono (Nat.le_trans hB i.p.size)⟩)
theorem load_at {w wr : World} {ad : Addr} {k : Nat} {x : Cal} (hb : ad.block < w.heap.size) (h : Lies wr (ad.add (k * 18)) x.cells) : ∀ i : Far w.heap.size wr, (Instr.loadAt 40 (.pointer (some (ad.add (k * 18))))).run Try.prog i.v = .ok x.val i.v := fun i => load_cal (h.below (by rw [block_of_add]; exact hb) i.p)

set_option maxHeartbeats 4000000 in
theorem hydrant_is (K : Words10) (A : Option Addr) (c : Nat) (l : List Cal) (i k : Int) (w : World) (h : CalsIn w A c l) (hi : I64 i) (hk : I64 k) :
    Calls Try.prog 12 #[.slice A l.length c, .int .i64 i, .int .i64 k] w (Says w true) := by
  have HK := Lib.hid K
  have m1 := Nat.le_trans h.lc h.cm
  unfold maxLen at m1
  clear K
  by_cases hbad : i < 0 ∨ (l.length : Int) ≤ i ∨ k < 0 ∨ (l.length : Int) ≤ k
  · obtain ⟨d1, hd1⟩ : ∃ d, decide (i < 0) = d := ⟨_, rfl⟩
    obtain ⟨d2, hd2⟩ : ∃ d, decide ((l.length : Int) ≤ i) = d := ⟨_, rfl⟩
    obtain ⟨d3, hd3⟩ : ∃ d, decide (k < 0) = d := ⟨_, rfl⟩
    obtain ⟨d4, hd4⟩ : ∃ d, decide ((l.length : Int) ≤ k) = d := ⟨_, rfl⟩
    have four : d1 = true ∨ (d1 = false ∧ d2 = true) ∨ (d1 = false ∧ d2 = false ∧ d3 = true) ∨ (d1 = false ∧ d2 = false ∧ d3 = false ∧ d4 = true) := by
      subst hd1 hd2 hd3 hd4
      simp only [decide_eq_true_eq, decide_eq_false_iff_not]
      omega
    clear hbad hi hk h
    rcases four with rfl | ⟨rfl, rfl⟩ | ⟨rfl, rfl, rfl⟩ | ⟨rfl, rfl, rfl, rfl⟩
    all_goals
      go_enter Try.func12, Try.ntmps12
      go_wp2_with fail
      go_ret
      exact ⟨rfl, Below.refl _ _⟩
  · obtain ⟨i, rfl⟩ : ∃ n : Nat, i = (n : Int) := ⟨i.toNat, by omega⟩
    obtain ⟨k, rfl⟩ : ∃ n : Nat, k = (n : Int) := ⟨k.toNat, by omega⟩
    have hil : i < l.length := by omega
    have hkl : k < l.length := by omega
    have e1 : decide ((i : Int) < 0) = false := by rw [decide_eq_false_iff_not]; omega
    have e2 : decide ((l.length : Int) ≤ (i : Int)) = false := by rw [decide_eq_false_iff_not]; omega
    have e2' : decide (l.length ≤ i) = false := by rw [decide_eq_false_iff_not]; omega
    have e3 : decide ((k : Int) < 0) = false := by rw [decide_eq_false_iff_not]; omega
    have e4 : decide ((l.length : Int) ≤ (k : Int)) = false := by rw [decide_eq_false_iff_not]; omega
    have e4' : decide (l.length ≤ k) = false := by rw [decide_eq_false_iff_not]; omega
    obtain ⟨ad, rfl, hb, hx⟩ := cal_of h.r hil
    obtain ⟨_, e, _, hy⟩ := cal_of h.r hkl
    cases e
    have L1 := Lib.hid (load_at hb hx)
    have L2 := Lib.hid (load_at hb hy)
    obtain ⟨x, hx'⟩ : ∃ x, l[i] = x := ⟨_, rfl⟩
    obtain ⟨y, hy'⟩ : ∃ y, l[k] = y := ⟨_, rfl⟩
    rw [hx'] at L1
    rw [hy'] at L2
    obtain ⟨b, hbb⟩ : ∃ b, aheadB x y = b := ⟨_, rfl⟩
    have C1 := Lib.hid (fun W => HK.out.ahead x y W)
    have C2 := Lib.hid (fun W => rahead_is x y W)
    rw [hbb] at C1 C2
    have tb : (b == b) = true := by simp
    clear hbad hx hy hx' hy' hbb h hi hk
    go_enter Try.func12, Try.ntmps12
    go_wp2_with fail
    refine wp_region_far (B := w.heap.size) (by kernel_rfl) (by kernel_rfl) ?_
    repeat (first
      | (refine wpQuiet_load rfl (.tmp 27) 40 rfl _ _ rfl L1.out ?_; simp only [Act.put, List.setIfInBounds_toArray, List.set_cons_zero, List.set_cons_succ])
      | (refine wpQuiet_load rfl (.tmp 31) 40 rfl _ _ rfl L2.out ?_; simp only [Act.put, List.setIfInBounds_toArray, List.set_cons_zero, List.set_cons_succ])
      | (refine wpQuiet_load rfl (.tmp 36) 40 rfl _ _ rfl L1.out ?_; simp only [Act.put, List.setIfInBounds_toArray, List.set_cons_zero, List.set_cons_succ])
      | (refine wpQuiet_load rfl (.tmp 40) 40 rfl _ _ rfl L2.out ?_; simp only [Act.put, List.setIfInBounds_toArray, List.set_cons_zero, List.set_cons_succ])
      | go_big_quiet_step (first | exact far_says (Nat.le_refl _) _ C1.out | exact far_says (Nat.le_refl _) _ C2.out))
    refine wpQuiet_nil ?_
    rintro _ ⟨i, rfl⟩
    have HBI := Lib.hid i.p
    go_wp2_with fail
    go_ret
    exact ⟨rfl, HBI.out⟩

set_option maxHeartbeats 4000000 in
theorem callsOrder_walk (K : Words10) (A : Option Addr) (c : Nat) (l : List Cal) (i k : Int) (w : World) (h : CalsIn w A c l) (hi : (Lit.int .i64 i).wf = true) (hk : (Lit.int .i64 k).wf = true) :
    Calls Try.prog 4 #[.slice A l.length c, .int .i64 i, .int .i64 k] w fun e w' => e = .returned (.bool true) ∧ Below w.heap.size w w' := by
  have HK := Lib.hid K
  have H := Lib.hid h
  have m1 := Nat.le_trans h.lc h.cm
  unfold maxLen at m1
  have VI := Lib.hid (i64_of hi)
  have VK := Lib.hid (i64_of hk)
  obtain ⟨d1, hd1⟩ : ∃ d, decide ((300 : Int) < (l.length : Int)) = d := ⟨_, rfl⟩
  clear K h hi hk
  go_enter Try.func4, Try.ntmps4
  cases d1 with
  | true =>
    go_wp2_with fail
    go_ret
    exact ⟨rfl, Below.refl _ _⟩
  | false =>
  have n1 : l.length ≤ 300 := by have := of_decide_eq_false hd1; omega
  have hq := hydrant_is HK.out A c l i k w H.out VI.out VK.out
  go_wp2_with fail
  refine hq.mono ?_
  rintro e W1 ⟨rfl, k1⟩
  have B1 := Lib.hid k1
  have H1 := Lib.hid (H.out.below k1)
  clear hq k1
  have hq := traced_is HK.out W1
  go_wp2_with fail
  refine hq.mono ?_
  rintro e W2 ⟨rfl, k2⟩
  have B2 := Lib.hid (below_next B1.out k2)
  have H2 := Lib.hid (H1.out.below k2)
  clear hq k2
  have hq := HK.out.order A c l W2 H2.out (by omega)
  have hlen : (natI (orderI l)).length ≤ 300 := by
    rw [natI_len]
    have := ord_len (l := l) (k := l.length)
    unfold orderI
    omega
  have HLEN := Lib.hid hlen
  obtain ⟨xs, hxs⟩ : ∃ xs, natI (orderI l) = xs := ⟨_, rfl⟩
  rw [hxs] at hq HLEN
  have HXS := Lib.hid hxs
  clear hlen hxs
  go_wp2_with fail
  refine hq.mono ?_
  rintro e W3 ⟨A3, c3, rfl, r3, _, _, k3⟩
  have B3 := Lib.hid (below_next B2.out k3)
  have H3 := Lib.hid (H2.out.below k3)
  have R3 := Lib.hid r3
  clear hq k3 r3
  have hq := rorder_is A c l W3 H3.out.r (by omega)
  rw [HXS.out] at hq
  go_wp2_with fail
  refine hq.mono ?_
  rintro e W4 ⟨A4, c4, rfl, r4, _, _, k4⟩
  have B4 := Lib.hid (below_next B3.out k4)
  have R4 := Lib.hid (R3.out.below k4)
  clear hq k4
  have hq := sameI_yes A3 A4 c3 c4 _ _ xs W4 (by have := HLEN.out; simp [maxLen]; omega) R4 (Lib.hid r4)
  clear r4
  go_wp2_with fail
  refine hq.mono ?_
  rintro e W5 ⟨rfl, k5⟩
  have B5 := Lib.hid (below_next B4.out k5)
  clear hq k5
  go_wp2_with fail
  go_ret
  exact ⟨rfl, B5.out⟩
end Go.Proofs.Ytglnofdncglmnaa
