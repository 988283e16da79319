/- script.Is: whether a script is right, by the program. -/
import Derived.Test.YtmjdamcbdclgpaaQwords
import Derived.Test.YtmjdamcbdclgpaaCmain2
import Derived.Deep.LoopGhost
namespace Go.Proofs.Ytmjdamcbdclgpaa
open Go.RowKit
set_option linter.unusedVariables false
set_option linter.unusedSimpArgs false
set_option maxRecDepth 100000

theorem box3q {w W : World} {a b c : Value} {t : TypeId} (B : Below (w.alloc (.cells #[a, b, c] t)).heap.size (w.alloc (.cells #[a, b, c] t)) W) :
    W.cell? ⟨w.heap.size, 0, none⟩ = some a ∧ W.cell? ⟨w.heap.size, 1, none⟩ = some b ∧ W.cell? ⟨w.heap.size, 2, none⟩ = some c := by
  have h1 : W.heap[w.heap.size]? = some (.cells #[a, b, c] t (0, 0)) := (B.block _ (by simp)).trans (one_alloc _ _)
  exact ⟨by rw [block_cell h1]; rfl, by rw [block_cell h1]; rfl, by rw [block_cell h1]; rfl⟩

theorem passes_is (c : Cfg) (w : World) (h : CfgIn w w.heap.size c) : Calls Try.prog 24 #[c.val] w (Says w ((checkI c.ls c.rs c.cs).1 == 0)) := by
  obtain ⟨w0, hw0⟩ : ∃ w0, w.alloc (.cells #[.slice c.la c.ls.length c.lc, .slice c.ra c.rs.length c.rc, .slice c.ca c.cs.length c.cc] 26) = w0 := ⟨_, rfl⟩
  have B0 : Below w.heap.size w w0 := by rw [← hw0]; exact boxed _ _
  obtain ⟨f0, f1, f2⟩ : w0.cell? ⟨w.heap.size, 0, none⟩ = some (.slice c.la c.ls.length c.lc) ∧ w0.cell? ⟨w.heap.size, 1, none⟩ = some (.slice c.ra c.rs.length c.rc) ∧ w0.cell? ⟨w.heap.size, 2, none⟩ = some (.slice c.ca c.cs.length c.cc) := by rw [← hw0]; exact box3q (Below.refl _ _)
  have hk := check_is c w0 ((h.below B0).more B0.size)
  obtain ⟨p, hp⟩ : ∃ p, checkI c.ls c.rs c.cs = p := ⟨_, rfl⟩
  rw [hp] at hk ⊢
  clear hp h
  unfold Cfg.val at *
  go_enter Try.func24, Try.ntmps24
  go_wp2_with fail
  refine hk.mono ?_
  rintro e W ⟨rfl, k1⟩
  clear hk f0 f1 f2 hw0
  go_wp2_with fail
  go_ret
  exact ⟨rfl, below_next B0 k1⟩

theorem anyBelow_is (A : Option Addr) (c : Nat) (l : List Int) (w : World) (hr : Reads w w.heap.size A (l.map (Value.int .i64))) (hl : l.length ≤ 9223372036854775807) :
    Calls Try.prog 30 #[.slice A l.length c] w fun e w' => e = .returned (.bool (l.any (· < 0))) ∧ w' = w := by
  have HR := Lib.hid hr
  clear hr
  obtain ⟨R, hR⟩ : ∃ R, l.any (· < 0) = R := ⟨_, rfl⟩
  rw [hR]
  have HP := Lib.hid hR
  clear hR
  go_enter Try.func30, Try.ntmps30
  go_wp2_with fail
  go_loopg [7] l.length (fun g i wr => ∃ k : Nat, k ≤ l.length ∧ g = l.length - k ∧ i = .int .i64 k ∧ (l.take k).any (· < 0) = false ∧ wr = w)
  case atStart => exact ⟨0, Nat.zero_le _, rfl, rfl, rfl, rfl⟩
  case round =>
    obtain ⟨k, hk, rfl, rfl, hno, rfl⟩ := hrel
    have HN := Lib.hid hno
    clear hno
    by_cases hlt : k < l.length
    · obtain ⟨ad, rfl, hb, f0⟩ := HR.out.int hlt
      have HA := Lib.hid (any_next (p := fun x => decide (x < (0 : Int))) hlt)
      have HH : Hid (decide (l[k] < (0 : Int)) = true → R = true) := Lib.hid fun h => by rw [← HP.out]; exact any_hit (p := fun x => decide (x < (0 : Int))) hlt h
      obtain ⟨x, hx⟩ : ∃ x, l[k] = x := ⟨_, rfl⟩
      rw [hx] at f0 HA HH
      clear hx
      obtain ⟨d, hd⟩ : ∃ d, decide (x < (0 : Int)) = d := ⟨_, rfl⟩
      rw [hd] at HA HH
      cases d with
      | true =>
        go_wp2_with fail
        go_ret
        exact ⟨ret_bool (HH.out (by trivial)).symm, rfl⟩
      | false =>
        go_wp2_with fail
        go_roundg (l.length - (k + 1))
        case measure => omega
        case rel => exact ⟨k + 1, by omega, rfl, by go_num, by rw [HA.out, HN.out]; rfl, rfl⟩
    · have HF : Hid (false = R) := Lib.hid (by rw [← HP.out, any_end hlt HN.out])
      go_wp2_with fail
      go_ret
      exact ⟨ret_bool HF.out, rfl⟩

theorem arePicks_is (A : Option Addr) (c : Nat) (l : List Int) (w : World) (hr : Reads w w.heap.size A (l.map (Value.int .i64))) (hl : l.length ≤ 9223372036854775807) :
    Calls Try.prog 26 #[.slice A l.length c] w fun e w' => e = .returned (.bool (decide (l.length ≤ 4000) && l.all (0 ≤ ·))) ∧ w' = w := by
  have hk := anyBelow_is A c l w hr hl
  have hall : l.all (0 ≤ ·) = !(l.any (· < 0)) := by
    rw [Bool.eq_iff_iff, List.all_eq_true, Bool.not_eq_true', List.any_eq_false]
    exact ⟨fun h x hx => by have := h x hx; simp at this ⊢; omega, fun h x hx => by have := h x hx; simp at this ⊢; omega⟩
  rw [hall]
  generalize l.any (· < 0) = b at hk ⊢
  clear hr
  by_cases h4 : l.length ≤ 4000
  · have t4 : decide ((l.length : Int) ≤ 4000) = true := by rw [decide_eq_true_eq]; omega
    rw [decide_eq_true h4]
    clear h4
    go_enter Try.func26, Try.ntmps26
    go_wp2_with fail
    refine hk.mono ?_
    rintro e w' ⟨rfl, rfl⟩
    go_wp2_with fail
    go_ret
    exact ⟨rfl, rfl⟩
  · have t4 : decide ((l.length : Int) ≤ 4000) = false := by rw [decide_eq_false_iff_not]; omega
    rw [decide_eq_false h4]
    clear h4
    go_enter Try.func26, Try.ntmps26
    go_wp2_with fail
    go_ret
    exact ⟨rfl, rfl⟩

theorem areOps_is (t : Thr) (w : World) (h : ThrIn w w.heap.size t) : Calls Try.prog 36 #[t.cell] w (Says w (thrOk t)) := by
  obtain ⟨R, hR⟩ : ∃ R, thrOk t = R := ⟨_, rfl⟩
  rw [hR]
  unfold thrOk at hR
  have HR := Lib.hid hR
  have HT := Lib.hid h
  have hol := Nat.le_trans h.ol h.om
  unfold maxLen at hol
  clear hR h
  unfold Thr.cell
  by_cases h16 : t.os.length ≤ 16
  case neg =>
    have v1 : decide ((16 : Int) < (t.os.length : Int)) = true := by rw [decide_eq_true_eq]; omega
    have HF : Hid (R = false) := Lib.hid (by rw [← HR.out, decide_eq_false h16]; rfl)
    clear h16
    go_enter Try.func36, Try.ntmps36
    go_wp2_with fail
    go_ret
    exact ⟨ret_bool HF.out.symm, Below.refl _ _⟩
  case pos =>
  have v1 : decide ((16 : Int) < (t.os.length : Int)) = false := by rw [decide_eq_false_iff_not]; omega
  have HR2 : Hid (t.os.all opOk = R) := Lib.hid (by rw [← HR.out, decide_eq_true h16]; rfl)
  clear h16 HR
  go_enter Try.func36, Try.ntmps36
  go_wp2_with fail
  go_loopg [10] t.os.length (fun g i wr => ∃ q : Nat, q ≤ t.os.length ∧ g = t.os.length - q ∧ i = .int .i64 q ∧ (t.os.take q).all opOk = true ∧ Below w.heap.size w wr)
  case atStart => exact ⟨0, Nat.zero_le _, rfl, rfl, rfl, Below.refl _ _⟩
  case round =>
    obtain ⟨q, hq, rfl, rfl, hops, BR⟩ := hrel
    have HOP := Lib.hid hops
    clear hops
    by_cases hql : q < t.os.length
    · obtain ⟨ad, e', hadb, hten⟩ := HT.out.op hql
      have hten := hten.below (by rw [block_of_add]; exact hadb) BR
      have hyo := all_take (p := opOk) hql
      have hno : opOk t.os[q] = false → R = false := fun hf => by
        rw [← HR2.out, List.all_eq_false]
        exact ⟨_, List.getElem_mem hql, by rw [hf]; decide⟩
      obtain ⟨o, ho⟩ : ∃ o, t.os[q] = o := ⟨_, rfl⟩
      rw [ho] at hten hno hyo
      obtain ⟨x0, x1, x2, x3, x4, x5, x6, x7, x8, x9⟩ := hten
      have HNOO := Lib.hid hno
      have HYO := Lib.hid hyo
      clear hno hyo ho
      obtain ⟨w4, hw4⟩ : ∃ w4, wr.alloc (.cells #[.int .i64 o.kind, .string o.listen, .string o.host, .string o.path, .int .i64 o.d0, .int .i64 o.d1, .int .i64 o.n, .slice o.cfg.la o.cfg.ls.length o.cfg.lc, .slice o.cfg.ra o.cfg.rs.length o.cfg.rc, .slice o.cfg.ca o.cfg.cs.length o.cfg.cc] 49) = w4 := ⟨_, rfl⟩
      have y0 : w4.cell? ⟨wr.heap.size, 0, none⟩ = some (.int .i64 o.kind) := by rw [← hw4]; exact (ten_box wr o).c0
      have B4 := Lib.hid (show Below w.heap.size w w4 by rw [← hw4]; exact below_next BR (boxed wr _))
      clear BR
      have three : o.kind < 1 ∨ (¬ o.kind < 1 ∧ 6 < o.kind) ∨ (1 ≤ o.kind ∧ o.kind ≤ 6) := by omega
      rcases three with z | ⟨z, z'⟩ | ⟨z, z'⟩
      · have y1 : decide (o.kind < 1) = true := decide_eq_true z
        have HF : Hid (R = false) := Lib.hid (HNOO.out (by rw [opOk, show decide (1 ≤ o.kind) = false by rw [decide_eq_false_iff_not]; omega]; rfl))
        clear z
        go_wp2_with fail
        go_ret
        exact ⟨ret_bool HF.out.symm, B4.out⟩
      · have y1 : decide (o.kind < 1) = false := decide_eq_false z
        have y2 : decide ((6 : Int) < o.kind) = true := decide_eq_true z'
        have HF : Hid (R = false) := Lib.hid (HNOO.out (by rw [opOk, show decide (o.kind ≤ 6) = false by rw [decide_eq_false_iff_not]; omega, Bool.and_false]))
        clear z z'
        go_wp2_with fail
        go_ret
        exact ⟨ret_bool HF.out.symm, B4.out⟩
      · have y1 : decide (o.kind < 1) = false := by rw [decide_eq_false_iff_not]; omega
        have y2 : decide ((6 : Int) < o.kind) = false := by rw [decide_eq_false_iff_not]; omega
        have HOK : Hid (opOk o = true) := Lib.hid (by rw [opOk, decide_eq_true z, decide_eq_true z']; rfl)
        clear z z'
        go_wp2_with fail
        go_roundg (t.os.length - (q + 1))
        case measure => omega
        case rel => exact ⟨q + 1, by omega, rfl, by go_num, by rw [HYO.out, HOP.out, HOK.out]; rfl, B4.out⟩
    · have HF : Hid (true = R) := Lib.hid (by
        have := HOP.out
        rw [List.take_of_length_le (by omega)] at this
        rw [← HR2.out, this])
      go_wp2_with fail
      go_ret
      exact ⟨ret_bool HF.out, BR⟩

def thrsOk (ts : List Thr) : Bool := (decide (1 ≤ ts.length) && decide (ts.length ≤ 8)) && ts.all thrOk

theorem areThreads_is (s : Scr) (w : World) (h : ScrIn w w.heap.size s) : Calls Try.prog 25 #[.slice s.ta s.ts.length s.tc] w (Says w (thrsOk s.ts)) := by
  obtain ⟨R, hR⟩ : ∃ R, thrsOk s.ts = R := ⟨_, rfl⟩
  rw [hR]
  unfold thrsOk at hR
  have HR := Lib.hid hR
  have HI := Lib.hid h
  have ht1 := Nat.le_trans h.tl h.tm
  unfold maxLen at ht1
  clear hR h
  by_cases q1 : s.ts.length < 1
  case pos =>
    have u1 : decide ((s.ts.length : Int) < 1) = true := by rw [decide_eq_true_eq]; omega
    have HF : Hid (R = false) := Lib.hid (by rw [← HR.out, show decide (1 ≤ s.ts.length) = false by rw [decide_eq_false_iff_not]; omega]; rfl)
    clear q1
    go_enter Try.func25, Try.ntmps25
    go_wp2_with fail
    go_ret
    exact ⟨ret_bool HF.out.symm, Below.refl _ _⟩
  case neg =>
  have u1 : decide ((s.ts.length : Int) < 1) = false := by rw [decide_eq_false_iff_not]; omega
  by_cases q2 : 8 < s.ts.length
  case pos =>
    have u2 : decide ((8 : Int) < (s.ts.length : Int)) = true := by rw [decide_eq_true_eq]; omega
    have HF : Hid (R = false) := Lib.hid (by rw [← HR.out, show decide (s.ts.length ≤ 8) = false by rw [decide_eq_false_iff_not]; omega, Bool.and_false]; rfl)
    clear q1 q2
    go_enter Try.func25, Try.ntmps25
    go_wp2_with fail
    go_ret
    exact ⟨ret_bool HF.out.symm, Below.refl _ _⟩
  case neg =>
  have u2 : decide ((8 : Int) < (s.ts.length : Int)) = false := by rw [decide_eq_false_iff_not]; omega
  have HR2 : Hid (s.ts.all thrOk = R) := Lib.hid (by rw [← HR.out, show decide (1 ≤ s.ts.length) = true by rw [decide_eq_true_eq]; omega, show decide (s.ts.length ≤ 8) = true by rw [decide_eq_true_eq]; omega]; rfl)
  clear HR q1 q2
  go_enter Try.func25, Try.ntmps25
  go_wp2_with fail
  go_loopg [15] s.ts.length (fun g i wr => ∃ k : Nat, k ≤ s.ts.length ∧ g = s.ts.length - k ∧ i = .int .i64 k ∧ (s.ts.take k).all thrOk = true ∧ Below w.heap.size w wr)
  case atStart => exact ⟨0, Nat.zero_le _, rfl, rfl, rfl, Below.refl _ _⟩
  case round =>
    obtain ⟨k, hk, rfl, rfl, hall, BR⟩ := hrel
    have HA := Lib.hid hall
    clear hall
    by_cases hlt : k < s.ts.length
    · obtain ⟨ad, e, hadb, g0⟩ := HI.out.thread hlt
      have g0 := (BR.cell (p := ad.add k) (by rw [block_of_add]; exact hadb)).trans g0
      have hti := HI.out.ti _ (List.getElem_mem hlt)
      have hno : thrOk s.ts[k] = false → R = false := fun hf => by
        rw [← HR2.out, List.all_eq_false]
        exact ⟨_, List.getElem_mem hlt, by rw [hf]; decide⟩
      have hyes := all_take (p := thrOk) hlt
      obtain ⟨t, ht⟩ : ∃ t, s.ts[k] = t := ⟨_, rfl⟩
      rw [ht] at g0 hti hno hyes
      have hcall := areOps_is t wr ((hti.keep fun p hp => BR.cell hp).more BR.size)
      unfold Thr.cell at hcall
      have HNO := Lib.hid hno
      have HY := Lib.hid hyes
      have HB := Lib.hid BR
      clear ht hti hno hyes BR
      have HE := Lib.hid e
      rw [e]
      clear e
      obtain ⟨b, hb⟩ : ∃ b, thrOk t = b := ⟨_, rfl⟩
      rw [hb] at hcall HNO HY
      clear hb
      go_wp2_with fail
      refine hcall.mono ?_
      rintro e W ⟨rfl, k1⟩
      have BW := Lib.hid (below_next HB.out k1)
      clear hcall g0 k1
      cases b with
      | true =>
        go_wp2_with fail
        rw [← HE.out]
        go_roundg (s.ts.length - (k + 1))
        case measure => omega
        case rel => exact ⟨k + 1, by omega, rfl, by go_num, by rw [HY.out, HA.out]; rfl, BW.out⟩
      | false =>
        go_wp2_with fail
        go_ret
        exact ⟨ret_bool (HNO.out (by trivial)).symm, BW.out⟩
    · have HF : Hid (true = R) := Lib.hid (by
        have := HA.out
        rw [List.take_of_length_le (by omega)] at this
        rw [← HR2.out, this])
      go_wp2_with fail
      go_ret
      exact ⟨ret_bool HF.out, BR⟩

theorem is8_is (s : Scr) (w : World) (h : ScrIn w w.heap.size s) : Calls Try.prog 10 #[s.val] w (Says w (scrOk s)) := by
  obtain ⟨w0, hw0⟩ : ∃ w0, w.alloc (.cells #[.slice s.first.la s.first.ls.length s.first.lc, .slice s.first.ra s.first.rs.length s.first.rc, .slice s.first.ca s.first.cs.length s.first.cc, .slice s.ta s.ts.length s.tc, .slice s.pa s.ps.length s.pc] 30) = w0 := ⟨_, rfl⟩
  have B0 : Below w.heap.size w w0 := by rw [← hw0]; exact boxed _ _
  have hbx := scr_box w (.slice s.first.la s.first.ls.length s.first.lc) (.slice s.first.ra s.first.rs.length s.first.rc) (.slice s.first.ca s.first.cs.length s.first.cc) (.slice s.ta s.ts.length s.tc) (.slice s.pa s.ps.length s.pc) 30
  rw [hw0] at hbx
  have hp1 := Nat.le_trans h.pl h.pm
  unfold maxLen at hp1
  have hk1 := passes_is s.first w0 (h.next B0).fi
  have hk2 := fun W (k : Below w0.heap.size w0 W) => areThreads_is s W ((h.next B0).next k)
  have hk3 := fun W (k : Below w0.heap.size w0 W) => arePicks_is s.pa s.pc s.ps W ((h.next B0).next k).pp (by omega)
  have hR : scrOk s = ((checkI s.first.ls s.first.rs s.first.cs).1 == 0 && (thrsOk s.ts && (decide (s.ps.length ≤ 4000) && s.ps.all (0 ≤ ·)))) := by
    unfold scrOk thrsOk
    cases ((checkI s.first.ls s.first.rs s.first.cs).1 == 0) <;> cases decide (1 ≤ s.ts.length) <;> cases decide (s.ts.length ≤ 8) <;> cases decide (s.ps.length ≤ 4000) <;> cases s.ts.all thrOk <;> cases s.ps.all (0 ≤ ·) <;> rfl
  rw [hR]
  generalize ((checkI s.first.ls s.first.rs s.first.cs).1 == 0) = b1 at hk1 ⊢
  generalize thrsOk s.ts = b2 at hk2 ⊢
  generalize (decide (s.ps.length ≤ 4000) && s.ps.all (0 ≤ ·)) = b3 at hk3 ⊢
  obtain ⟨f0, f1, f2, f3, f4⟩ := hbx w0 (Below.refl _ _)
  have HBX := Lib.hid hbx
  have BB := Lib.hid B0
  have HK2 := Lib.hid hk2
  have HK3 := Lib.hid hk3
  clear h B0 hbx hR hk2 hk3
  unfold Scr.val
  unfold Cfg.val at hk1
  go_enter Try.func10, Try.ntmps10
  go_wp2_with fail
  refine hk1.mono ?_
  rintro e W ⟨rfl, k1⟩
  clear f0 f1 f2 f3 f4 hk1 hw0
  obtain ⟨f0, f1, f2, f3, f4⟩ := HBX.out W k1
  have BW := Lib.hid (below_next BB.out k1)
  have hk2 := HK2.out W k1
  have K1 := Lib.hid k1
  clear k1 HK2
  cases b1 with
  | false =>
    clear hk2
    go_wp2_with fail
    go_ret
    exact ⟨rfl, BW.out⟩
  | true =>
  go_wp2_with fail
  refine hk2.mono ?_
  rintro e W2 ⟨rfl, k2⟩
  clear f0 f1 f2 f3 f4 hk2
  obtain ⟨f0, f1, f2, f3, f4⟩ := HBX.out W2 (below_next K1.out k2)
  have BW2 := Lib.hid (below_next BW.out k2)
  have hk3 := HK3.out W2 (below_next K1.out k2)
  clear k2 HK3
  cases b2 with
  | false =>
    clear hk3
    go_wp2_with fail
    go_ret
    exact ⟨rfl, BW2.out⟩
  | true =>
  go_wp2_with fail
  refine hk3.mono ?_
  rintro e W3 ⟨rfl, rfl⟩
  clear f0 f1 f2 f3 f4 hk3
  go_wp2_with fail
  go_ret
  exact ⟨rfl, BW2.out⟩
end Go.Proofs.Ytmjdamcbdclgpaa
