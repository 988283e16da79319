/- The document's Is of a script. -/
import Derived.Test.YtmjdamcbdclgpaaM3
import Derived.Test.YtmjdamcbdclgpaaCref
import Derived.Deep.LoopGhost
namespace Go.Proofs.Ytmjdamcbdclgpaa
open Go.RowKit
set_option linter.unusedVariables false
set_option linter.unusedSimpArgs false
set_option maxRecDepth 100000

/-- A script's box: its five cells, in any later world. -/
theorem scr_box (w : World) (a b c d e : Value) (t : TypeId) (W : World) (h : Below (w.alloc (.cells #[a, b, c, d, e] t)).heap.size (w.alloc (.cells #[a, b, c, d, e] t)) W) :
    W.cell? ⟨w.heap.size, 0, none⟩ = some a ∧ W.cell? ⟨w.heap.size, 1, none⟩ = some b ∧ W.cell? ⟨w.heap.size, 2, none⟩ = some c ∧ W.cell? ⟨w.heap.size, 3, none⟩ = some d ∧ W.cell? ⟨w.heap.size, 4, none⟩ = some e := by
  have h1 : W.heap[w.heap.size]? = some (.cells #[a, b, c, d, e] t (0, 0)) := (h.block _ (by simp)).trans (one_alloc _ _)
  exact ⟨by rw [block_cell h1]; rfl, by rw [block_cell h1]; rfl, by rw [block_cell h1]; rfl, by rw [block_cell h1]; rfl, by rw [block_cell h1]; rfl⟩

set_option maxHeartbeats 8000000 in
theorem ris_is (s : Scr) (w : World) (h : ScrIn w w.heap.size s) (hbig : ∀ r ∈ s.first.rs, r.host.size ≤ 2000) : Calls Try.prog 11 #[s.val] w (Says w (scrOk s)) := by
  obtain ⟨w0, hw0⟩ : ∃ w0, w.alloc (.cells #[.slice s.first.la s.first.ls.length s.first.lc, .slice s.first.ra s.first.rs.length s.first.rc, .slice s.first.ca s.first.cs.length s.first.cc, .slice s.ta s.ts.length s.tc, .slice s.pa s.ps.length s.pc] 30) = w0 := ⟨_, rfl⟩
  have B0 : Below w.heap.size w w0 := by rw [← hw0]; exact boxed _ _
  have hbx := scr_box w (.slice s.first.la s.first.ls.length s.first.lc) (.slice s.first.ra s.first.rs.length s.first.rc) (.slice s.first.ca s.first.cs.length s.first.cc) (.slice s.ta s.ts.length s.tc) (.slice s.pa s.ps.length s.pc) 30
  rw [hw0] at hbx
  have hk := rcheck_is s.first w0 (h.next B0).fi hbig
  obtain ⟨f0, f1, f2, f3, f4⟩ := hbx w0 (Below.refl _ _)
  obtain ⟨R, hR⟩ : ∃ R, scrOk s = R := ⟨_, rfl⟩
  rw [hR]
  unfold scrOk at hR
  obtain ⟨p, hp⟩ : ∃ p, checkI s.first.ls s.first.rs s.first.cs = p := ⟨_, rfl⟩
  rw [hp] at hk hR
  have HR := Lib.hid hR
  have HI := Lib.hid (h.next B0)
  have HBX := Lib.hid hbx
  have BB := Lib.hid B0
  have ht1 := Nat.le_trans h.tl h.tm
  have hp1 := Nat.le_trans h.pl h.pm
  unfold maxLen at ht1 hp1
  clear h hbig B0 hbx hp hR
  unfold Scr.val Cfg.val at *
  go_enter Try.func11, Try.ntmps11
  go_wp2_with fail
  refine hk.mono ?_
  rintro e W ⟨rfl, k1⟩
  clear f0 f1 f2 f3 f4 hk hw0
  obtain ⟨f0, f1, f2, f3, f4⟩ := HBX.out W k1
  have BW := Lib.hid (below_next BB.out k1)
  have HW := Lib.hid (HI.out.next k1)
  by_cases h1 : p.1 = 0
  case neg =>
    have t1 : (p.1 != 0) = true := by simpa using h1
    have HF : Hid (R = false) := Lib.hid (by rw [← HR.out, show (p.1 == 0) = false by simpa using h1]; rfl)
    clear h1
    go_wp2_with fail
    go_ret
    exact ⟨ret_bool HF.out.symm, BW.out⟩
  case pos =>
  have t1 : (p.1 != 0) = false := by simpa using h1
  have HR1 : Hid (((decide (1 ≤ s.ts.length) && (decide (s.ts.length ≤ 8) && decide (s.ps.length ≤ 4000))) && (s.ts.all thrOk && s.ps.all (0 ≤ ·))) = R) := Lib.hid (by rw [← HR.out, show (p.1 == 0) = true by simpa using h1, Bool.true_and])
  clear h1 HR
  by_cases h2 : 1 ≤ s.ts.length ∧ s.ts.length ≤ 8 ∧ s.ps.length ≤ 4000
  case neg =>
    have HF : Hid (R = false) := Lib.hid (by
      rw [← HR1.out]
      have : (decide (1 ≤ s.ts.length) && (decide (s.ts.length ≤ 8) && decide (s.ps.length ≤ 4000))) = false := by
        rw [Bool.eq_false_iff]
        intro hh
        simp only [Bool.and_eq_true, decide_eq_true_eq] at hh
        exact h2 hh
      rw [this, Bool.false_and])
    clear HR1
    by_cases q1 : s.ts.length < 1
    · have u1 : decide ((s.ts.length : Int) < 1) = true := by rw [decide_eq_true_eq]; omega
      clear h2
      go_wp2_with fail
      go_ret
      exact ⟨ret_bool HF.out.symm, BW.out⟩
    · have u1 : decide ((s.ts.length : Int) < 1) = false := by rw [decide_eq_false_iff_not]; omega
      by_cases q2 : 8 < s.ts.length
      · have u2 : decide ((8 : Int) < (s.ts.length : Int)) = true := by rw [decide_eq_true_eq]; omega
        clear h2
        go_wp2_with fail
        go_ret
        exact ⟨ret_bool HF.out.symm, BW.out⟩
      · have u2 : decide ((8 : Int) < (s.ts.length : Int)) = false := by rw [decide_eq_false_iff_not]; omega
        have u3 : decide ((4000 : Int) < (s.ps.length : Int)) = true := by rw [decide_eq_true_eq]; omega
        clear h2
        go_wp2_with fail
        go_ret
        exact ⟨ret_bool HF.out.symm, BW.out⟩
  case pos =>
  obtain ⟨q1, q2, q3⟩ := h2
  have HR2 : Hid ((s.ts.all thrOk && s.ps.all (0 ≤ ·)) = R) := Lib.hid (by rw [← HR1.out, decide_eq_true q1, decide_eq_true q2, decide_eq_true q3]; rfl)
  have u1 : decide ((s.ts.length : Int) < 1) = false := by rw [decide_eq_false_iff_not]; omega
  have u2 : decide ((8 : Int) < (s.ts.length : Int)) = false := by rw [decide_eq_false_iff_not]; omega
  have u3 : decide ((4000 : Int) < (s.ps.length : Int)) = false := by rw [decide_eq_false_iff_not]; omega
  clear HR1
  go_wp2_with fail
  go_loopg [5] s.ts.length (fun g i wr => ∃ k : Nat, k ≤ s.ts.length ∧ g = s.ts.length - k ∧ i = .int .i64 k ∧ (s.ts.take k).all thrOk = true ∧ wr = W)
  case atStart => exact ⟨0, Nat.zero_le _, rfl, rfl, rfl, rfl⟩
  case round =>
    obtain ⟨k, hk, rfl, rfl, hall, rfl⟩ := hrel
    have HA := Lib.hid hall
    clear hall
    by_cases hlt : k < s.ts.length
    · obtain ⟨ad, e, _, g0⟩ := HW.out.thread hlt
      have hti := HW.out.ti _ (List.getElem_mem hlt)
      have hno : thrOk s.ts[k] = false → R = false := fun hf => by
        rw [← HR2.out]
        have : s.ts.all thrOk = false := by
          rw [List.all_eq_false]
          exact ⟨_, List.getElem_mem hlt, by rw [hf]; decide⟩
        rw [this, Bool.false_and]
      have hyes := all_take (p := thrOk) hlt
      obtain ⟨t, ht⟩ : ∃ t, s.ts[k] = t := ⟨_, rfl⟩
      rw [ht] at g0 hti hno hyes
      have HT := Lib.hid hti
      have HNO := Lib.hid hno
      have HY := Lib.hid hyes
      have hol := Nat.le_trans hti.ol hti.om
      unfold maxLen at hol
      clear ht hti hno hyes
      rw [e] at f3
      by_cases h16 : t.os.length ≤ 16
      · have v1 : decide ((16 : Int) < (t.os.length : Int)) = false := by rw [decide_eq_false_iff_not]; omega
        go_wp2_with fail
        go_loopg [6] t.os.length (fun g i wi => ∃ q : Nat, q ≤ t.os.length ∧ g = t.os.length - q ∧ i = .int .i64 q ∧ (t.os.take q).all opOk = true ∧ wi = wr)
        case atStart => exact ⟨0, Nat.zero_le _, rfl, rfl, rfl, rfl⟩
        case round =>
          obtain ⟨q, hq, rfl, rfl, hops, rfl⟩ := hrel
          have HOP := Lib.hid hops
          clear hops
          by_cases hql : q < t.os.length
          · obtain ⟨ad', e', _, hten⟩ := HT.out.op hql
            have hyo := all_take (p := opOk) hql
            have hno : opOk t.os[q] = false → R = false := fun hf => HNO.out (by
              have : t.os.all opOk = false := by
                rw [List.all_eq_false]
                exact ⟨_, List.getElem_mem hql, by rw [hf]; decide⟩
              rw [thrOk, this, Bool.and_false])
            obtain ⟨o, ho⟩ : ∃ o, t.os[q] = o := ⟨_, rfl⟩
            rw [ho] at hten hno hyo
            have x0 := hten.c0
            have HNOO := Lib.hid hno
            have HYO := Lib.hid hyo
            clear hten hno hyo ho
            rw [e'] at g0
            have three : o.kind < 1 ∨ (¬ o.kind < 1 ∧ 6 < o.kind) ∨ (1 ≤ o.kind ∧ o.kind ≤ 6) := by omega
            rcases three with z | ⟨z, z'⟩ | ⟨z, z'⟩
            · have y1 : decide (o.kind < 1) = true := decide_eq_true z
              have HF : Hid (R = false) := Lib.hid (HNOO.out (by rw [opOk, show decide (1 ≤ o.kind) = false by rw [decide_eq_false_iff_not]; omega]; rfl))
              clear z
              go_wp2_with fail
              go_ret
              exact ⟨ret_bool HF.out.symm, BW.out⟩
            · have y1 : decide (o.kind < 1) = false := decide_eq_false z
              have y2 : decide ((6 : Int) < o.kind) = true := decide_eq_true z'
              have HF : Hid (R = false) := Lib.hid (HNOO.out (by rw [opOk, show decide (o.kind ≤ 6) = false by rw [decide_eq_false_iff_not]; omega, Bool.and_false]))
              clear z z'
              go_wp2_with fail
              go_ret
              exact ⟨ret_bool HF.out.symm, BW.out⟩
            · have y1 : decide (o.kind < 1) = false := by rw [decide_eq_false_iff_not]; omega
              have y2 : decide ((6 : Int) < o.kind) = false := by rw [decide_eq_false_iff_not]; omega
              have HOK : Hid (opOk o = true) := Lib.hid (by rw [opOk, decide_eq_true z, decide_eq_true z']; rfl)
              clear z z'
              go_wp2_with fail
              go_roundg (t.os.length - (q + 1))
              case measure => omega
              case rel => exact ⟨q + 1, by omega, rfl, by go_num, by rw [HYO.out, HOP.out, HOK.out]; rfl, rfl⟩
          · obtain rfl : q = t.os.length := by omega
            have HOK : Hid (thrOk t = true) := Lib.hid (by
              have := HOP.out
              rw [List.take_length] at this
              rw [thrOk, this, decide_eq_true h16]; rfl)
            go_wp2_with fail
            go_roundg (s.ts.length - (k + 1))
            case measure => omega
            case rel => exact ⟨k + 1, by omega, rfl, by go_num, by rw [HY.out, HA.out, HOK.out]; rfl, rfl⟩
      · have v1 : decide ((16 : Int) < (t.os.length : Int)) = true := by rw [decide_eq_true_eq]; omega
        have HF : Hid (R = false) := Lib.hid (HNO.out (by rw [thrOk, decide_eq_false h16]; rfl))
        go_wp2_with fail
        go_ret
        exact ⟨ret_bool HF.out.symm, BW.out⟩
    · have HR3 : Hid (s.ps.all (0 ≤ ·) = R) := Lib.hid (by
        rw [← HR2.out]
        have := HA.out
        rw [List.take_of_length_le (by omega)] at this
        rw [this, Bool.true_and])
      clear HR2
      go_wp2_with fail
      go_loopg [7] s.ps.length (fun g i wi => ∃ q : Nat, q ≤ s.ps.length ∧ g = s.ps.length - q ∧ i = .int .i64 q ∧ (s.ps.take q).all (0 ≤ ·) = true ∧ wi = wr)
      case atStart => exact ⟨0, Nat.zero_le _, rfl, rfl, rfl, rfl⟩
      case round =>
        obtain ⟨q, hq, rfl, rfl, hops, rfl⟩ := hrel
        have HOP := Lib.hid hops
        clear hops
        by_cases hql : q < s.ps.length
        · obtain ⟨ad', e', _, g0⟩ := HW.out.pp.int hql
          have hyo := all_take (p := fun x => decide (0 ≤ x)) hql
          have hno : decide (0 ≤ s.ps[q]) = false → R = false := fun hf => by
            rw [← HR3.out, List.all_eq_false]
            exact ⟨_, List.getElem_mem hql, by rw [hf]; decide⟩
          obtain ⟨x, hx⟩ : ∃ x, s.ps[q] = x := ⟨_, rfl⟩
          rw [hx] at g0 hno hyo
          have HNOO := Lib.hid hno
          have HYO := Lib.hid hyo
          clear hno hyo hx
          rw [e'] at f4
          by_cases z : x < 0
          · have y1 : decide (x < 0) = true := decide_eq_true z
            have HF : Hid (R = false) := Lib.hid (HNOO.out (by rw [decide_eq_false_iff_not]; omega))
            clear z
            go_wp2_with fail
            go_ret
            exact ⟨ret_bool HF.out.symm, BW.out⟩
          · have y1 : decide (x < 0) = false := decide_eq_false z
            have HOK : Hid (decide (0 ≤ x) = true) := Lib.hid (by rw [decide_eq_true_eq]; omega)
            clear z
            go_wp2_with fail
            go_roundg (s.ps.length - (q + 1))
            case measure => omega
            case rel => exact ⟨q + 1, by omega, rfl, by go_num, by rw [HYO.out, HOP.out, HOK.out]; rfl, rfl⟩
        · have HF : Hid (R = true) := Lib.hid (by
            rw [← HR3.out]
            have := HOP.out
            rwa [List.take_of_length_le (by omega)] at this)
          go_wp2_with fail
          go_ret
          exact ⟨ret_bool HF.out.symm, BW.out⟩
end Go.Proofs.Ytmjdamcbdclgpaa
