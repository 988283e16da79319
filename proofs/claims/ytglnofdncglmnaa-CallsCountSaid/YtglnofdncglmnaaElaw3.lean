/- CallsCount: the walk, over what the program's three calls say. -/
import Derived.Test.YtglnofdncglmnaaElaw1
namespace Go.Proofs.Ytglnofdncglmnaa
open Go.RowKit
set_option linter.unusedVariables false
set_option linter.unusedSimpArgs false
set_option maxRecDepth 100000

theorem errOf_no' {r : Option (List Cal)} (h : r = none) : errOf r = 11 := by subst h; rfl
theorem far_at' {B : Nat} {wr : World} {p : Addr} {v : Value} (hb : p.block < B) (h : wr.cell? p = some v) : ∀ i : Far B wr, i.v.cell? p = some v := fun i => (i.p.cell hb).trans h
theorem begun_next {l : List Ev} {k : Nat} (hk : k < l.length) : begun (l.take (k + 1)) = begun (l.take k) + (bif l[k].begin then 1 else 0) := by
  unfold begun
  rw [List.take_succ_eq_append_getElem hk, List.countP_append, List.countP_singleton]
  cases l[k].begin <;> rfl
theorem done_next {l : List Ev} {k : Nat} (hk : k < l.length) : doneN (l.take (k + 1)) = doneN (l.take k) + (bif l[k].done then 1 else 0) := by
  unfold doneN
  rw [List.take_succ_eq_append_getElem hk, List.countP_append, List.countP_singleton]
  cases l[k].done <;> rfl
theorem ended_next {l : List Cal} {k : Nat} (hk : k < l.length) : ended (l.take (k + 1)) = ended (l.take k) + (bif decide (0 ≤ l[k].to) then 1 else 0) := by
  unfold ended
  rw [List.take_succ_eq_append_getElem hk, List.countP_append, List.countP_singleton]
  cases decide (0 ≤ l[k].to) <;> rfl

set_option maxHeartbeats 8000000 in
theorem callsCount_walk (K : Words10) (A : Option Addr) (c : Nat) (l : List Ev) (w : World) (h : EvsIn w A c l) (hz : l.length * 168 ≤ 140737488351232) :
    Calls Try.prog 7 #[.slice A l.length c] w fun e w' => e = .returned (.bool true) ∧ Below w.heap.size w w' := by
  have HK := Lib.hid K
  have H0 := Lib.hid h
  have HT := Lib.hid (fun W => traced_is HK.out W)
  have hq := HK.out.of A c l w h hz
  have HCL := Lib.hid (calls_le (l := l))
  obtain ⟨r, hr⟩ : ∃ r, ofL l = r := ⟨_, rfl⟩
  rw [hr] at hq HCL
  have HR := Lib.hid hr
  clear K h hr
  go_enter Try.func7, Try.ntmps7
  go_wp2_with fail
  refine hq.mono ?_
  intro e W1 h1
  obtain ⟨A1, c1, rfl, r1, k1⟩ := told_all h1
  have B1 := Lib.hid k1
  have R1 := Lib.hid r1
  have H1 := Lib.hid (H0.out.below k1)
  clear hq h1 r1 k1 H0
  by_cases hbad : 300 < l.length ∨ r = none
  · have two : decide ((300 : Int) < (l.length : Int)) = true ∨ (decide ((300 : Int) < (l.length : Int)) = false ∧ errOf r = 11) := by
      by_cases h3 : 300 < l.length
      · exact .inl (by rw [decide_eq_true_eq]; omega)
      · refine .inr ⟨by rw [decide_eq_false_iff_not]; omega, ?_⟩
        rcases hbad with hb | hb
        · exact absurd hb h3
        · exact errOf_no' hb
    clear hbad
    rcases two with d1 | ⟨d1, d2⟩
    · go_wp2_with fail
      refine (HT.out W1).mono ?_
      rintro e W2 ⟨rfl, k2⟩
      have B2 := Lib.hid (below_next B1.out k2)
      clear k2
      go_wp2_with fail
      go_ret
      exact ⟨rfl, B2.out⟩
    · rw [d2]
      clear d2
      go_wp2_with fail
      refine (HT.out W1).mono ?_
      rintro e W2 ⟨rfl, k2⟩
      have B2 := Lib.hid (below_next B1.out k2)
      clear k2
      go_wp2_with fail
      go_ret
      exact ⟨rfl, B2.out⟩
  · have n1 : l.length ≤ 300 := by omega
    have d1 : decide ((300 : Int) < (l.length : Int)) = false := by rw [decide_eq_false_iff_not]; omega
    obtain ⟨cs, rfl⟩ : ∃ cs, r = some cs := by
      rcases r with _ | cs
      · exact absurd (.inr rfl) hbad
      · exact ⟨cs, rfl⟩
    have hn : cs.length ≤ 300 := by have := HCL.out; rw [Option.getD_some] at this; omega
    have R1 : Hid (CalsIn W1 A1 c1 cs) := R1
    rw [show ((some cs).getD []).length = cs.length from rfl, show errOf (some cs) = 0 from rfl]
    have HINV := Lib.hid (inv_of (Nat.le_refl _) HR.out).each
    have HCNT := Lib.hid (count_of (Nat.le_refl _) HR.out)
    clear hbad
    go_wp2_with fail
    go_loopg [5, 6, 7] l.length (fun g x y i wr => ∃ k : Nat, k ≤ l.length ∧ g = l.length - k ∧ i = .int .i64 k ∧ x = .int .i64 (begun (l.take k) : Nat) ∧ y = .int .i64 (doneN (l.take k) : Nat) ∧ wr = W1)
    case atStart => exact ⟨0, Nat.zero_le _, rfl, rfl, rfl, rfl, rfl⟩
    case round =>
      obtain ⟨k, hk, rfl, rfl, rfl, rfl, rfl⟩ := hrel
      by_cases hlt : k < l.length
      · have t1 : decide ((k : Int) < (l.length : Int)) = true := by rw [decide_eq_true_eq]; omega
        have t1' : decide (k < l.length) = true := decide_eq_true hlt
        obtain ⟨ad, rfl, _, hx⟩ := H1.out.ev hlt
        obtain ⟨_, _, _, _, _, _, _, f7, _, f9, _⟩ := ev_at hx
        have hb1 := begun_next hlt
        have hb2 := done_next hlt
        have hc1 : begun (l.take k) ≤ k := by unfold begun; exact Nat.le_trans List.countP_le_length (by rw [List.length_take]; omega)
        have hc2 : doneN (l.take k) ≤ k := by unfold doneN; exact Nat.le_trans List.countP_le_length (by rw [List.length_take]; omega)
        rcases hb : l[k].begin with _ | _ <;> rcases hd : l[k].done with _ | _
        all_goals
          rw [hb] at f7 hb1
          rw [hd] at f9 hb2
          have HB1 := Lib.hid hb1
          have HB2 := Lib.hid hb2
          clear hx hb hd hb1 hb2
          obtain ⟨b1, e1⟩ : ∃ b, begun (l.take k) = b := ⟨_, rfl⟩
          obtain ⟨b2, e2⟩ : ∃ b, doneN (l.take k) = b := ⟨_, rfl⟩
          rw [e1] at hc1 HB1 ⊢
          rw [e2] at hc2 HB2 ⊢
          clear e1 e2
          go_wp2_with fail
          go_roundg (l.length - (k + 1))
          case measure => omega
          case rel => exact ⟨k + 1, by omega, rfl, by go_num, by rw [HB1.out]; go_num, by rw [HB2.out]; go_num, rfl⟩
      · obtain rfl : k = l.length := by omega
        have t1 : decide ((l.length : Int) < (l.length : Int)) = false := by rw [decide_eq_false_iff_not]; omega
        rw [List.take_length]
        rw [show begun l = cs.length by have := HCNT.out.1; rw [List.take_length] at this; exact this.symm, show doneN l = ended cs by have := HCNT.out.2; rw [List.take_length] at this; exact this.symm]
        obtain ⟨W9, hW9⟩ : ∃ W9, W9 = wr := ⟨_, rfl⟩
        subst hW9
        go_wp2_with fail
        go_loopg [8, 9] cs.length (fun g x i wi => ∃ k : Nat, k ≤ cs.length ∧ g = cs.length - k ∧ i = .int .i64 k ∧ x = .int .i64 (ended (cs.take k) : Nat) ∧ Below W9.heap.size W9 wi)
        case atStart => exact ⟨0, Nat.zero_le _, rfl, rfl, rfl, Below.refl _ _⟩
        case round =>
          obtain ⟨k, hk, rfl, rfl, rfl, B⟩ := hrel
          have BI := Lib.hid B
          by_cases hlt : k < cs.length
          · have t1 : decide ((k : Int) < (cs.length : Int)) = true := by rw [decide_eq_true_eq]; omega
            have t1' : decide (k < cs.length) = true := decide_eq_true hlt
            obtain ⟨ad, rfl, hb, hx⟩ := cal_of (R1.out.r.below B) hlt
            obtain ⟨_, _, f2, f3, f4, _⟩ := cal_at hx
            have hin := HINV.out _ (List.getElem_mem hlt)
            have hnx := ended_next hlt
            have hc : ended (cs.take k) ≤ k := by unfold ended; exact Nat.le_trans List.countP_le_length (by rw [List.length_take]; omega)
            obtain ⟨x, hxx⟩ : ∃ x, cs[k] = x := ⟨_, rfl⟩
            rw [hxx] at f2 f3 f4 hin hnx
            have hbl : (ad.add (k * 18)).block < W9.heap.size := by rw [block_of_add]; exact hb
            have F2 := far_at' (B := W9.heap.size) (p := ⟨(ad.add (k * 18)).block, (ad.add (k * 18)).off + 2, none⟩) hbl f2
            have F3 := far_at' (B := W9.heap.size) (p := ⟨(ad.add (k * 18)).block, (ad.add (k * 18)).off + 3, none⟩) hbl f3
            have F4 := far_at' (B := W9.heap.size) (p := ⟨(ad.add (k * 18)).block, (ad.add (k * 18)).off + 4, none⟩) hbl f4
            obtain ⟨p1, p2, p3, p4⟩ := hin
            obtain ⟨d2, hd2⟩ : ∃ d, decide (0 ≤ x.to) = d := ⟨_, rfl⟩
            obtain ⟨d3, hd3⟩ : ∃ d, decide (0 ≤ x.point) = d := ⟨_, rfl⟩
            rw [hd2] at hnx
            have HNX := Lib.hid hnx
            have t2 : d2 = true → decide (x.to < x.frm) = false := fun h => by rw [h, decide_eq_true_eq] at hd2; rw [decide_eq_false_iff_not]; omega
            have t3 : d3 = true → decide (x.point < x.frm) = false := fun h => by rw [h, decide_eq_true_eq] at hd3; rw [decide_eq_false_iff_not]; omega
            have t4 : d2 = true → decide (x.to < x.point) = false := fun h => by rw [h, decide_eq_true_eq] at hd2; rw [decide_eq_false_iff_not]; omega
            have T2 := Lib.hid t2
            have T3 := Lib.hid t3
            have T4 := Lib.hid t4
            obtain ⟨b1, e1⟩ : ∃ b, ended (cs.take k) = b := ⟨_, rfl⟩
            rw [e1] at hc HNX ⊢
            clear hx hxx hnx t2 t3 t4 p1 p2 p3 p4 hbl e1 B
            rcases d2 with _ | _ <;> rcases d3 with _ | _
            case' false.true => have u3 := T3.out rfl
            case' true.false => have u2 := T2.out rfl; have u4 := T4.out rfl
            case' true.true => have u2 := T2.out rfl; have u3 := T3.out rfl; have u4 := T4.out rfl
            all_goals
              clear T2 T3 T4
              go_wp2_with fail
              refine wp_region_far (B := W9.heap.size) (by kernel_rfl) (by kernel_rfl) ?_
              repeat (go_big_quiet_step (fail))
              refine wpQuiet_nil ?_
              rintro _ ⟨i, rfl⟩
              have BI2 := Lib.hid (BI.out.trans i.p)
              obtain ⟨W5, hW5⟩ : ∃ W5, i.v = W5 := ⟨_, rfl⟩
              rw [hW5] at BI2 ⊢
              clear hW5 F2 F3 F4
              go_wp2_with fail
              go_roundg (cs.length - (k + 1))
              case measure => omega
              case rel => exact ⟨k + 1, by omega, rfl, by go_num, by rw [HNX.out]; go_num, BI2.out⟩
          · obtain rfl : k = cs.length := by omega
            have t1 : decide ((cs.length : Int) < (cs.length : Int)) = false := by rw [decide_eq_false_iff_not]; omega
            rw [List.take_length]
            clear B
            go_wp2_with fail
            refine (HT.out wr).mono ?_
            rintro e W3 ⟨rfl, k3⟩
            have B3 := Lib.hid (below_next (below_next B1.out BI.out) k3)
            clear k3
            go_wp2_with fail
            go_ret
            exact ⟨rfl, B3.out⟩
end Go.Proofs.Ytglnofdncglmnaa
