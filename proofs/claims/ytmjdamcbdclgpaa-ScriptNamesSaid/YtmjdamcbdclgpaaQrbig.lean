/- The document's Big of a script. -/
import Derived.Test.YtmjdamcbdclgpaaQris
import Derived.Test.YtmjdamcbdclgpaaCbig
namespace Go.Proofs.Ytmjdamcbdclgpaa
open Go.RowKit
set_option linter.unusedVariables false
set_option linter.unusedSimpArgs false
set_option maxRecDepth 100000

def bigO (o : Opn) : Bool := (bigB o.cfg.ls o.cfg.rs o.cfg.cs || decide (100 < (o.host.size : Int))) || decide (100 < (o.path.size : Int))
def bigT (t : Thr) : Bool := decide (40 < (t.os.length : Int)) || t.os.any bigO
def bigQ (s : Scr) : Bool := ((bigB s.first.ls s.first.rs s.first.cs || decide (20 < (s.ts.length : Int))) || decide (5000 < (s.ps.length : Int))) || s.ts.any bigT

theorem ten_box (w : World) (o : Opn) : Ten (w.alloc (.cells #[.int .i64 o.kind, .string o.listen, .string o.host, .string o.path, .int .i64 o.d0, .int .i64 o.d1, .int .i64 o.n, .slice o.cfg.la o.cfg.ls.length o.cfg.lc, .slice o.cfg.ra o.cfg.rs.length o.cfg.rc, .slice o.cfg.ca o.cfg.cs.length o.cfg.cc] 49)) ⟨w.heap.size, 0, none⟩ o := by
  have h := fun i => World.cell?_alloc_new w #[.int .i64 o.kind, .string o.listen, .string o.host, .string o.path, .int .i64 o.d0, .int .i64 o.d1, .int .i64 o.n, .slice o.cfg.la o.cfg.ls.length o.cfg.lc, .slice o.cfg.ra o.cfg.rs.length o.cfg.rc, .slice o.cfg.ca o.cfg.cs.length o.cfg.cc] 49 i
  exact ⟨h 0, h 1, h 2, h 3, h 4, h 5, h 6, h 7, h 8, h 9⟩

set_option maxHeartbeats 8000000 in
theorem rbig8_is (s : Scr) (w : World) (h : ScrIn w w.heap.size s) : Calls Try.prog 8 #[s.val] w (Says w (bigQ s)) := by
  obtain ⟨w0, hw0⟩ : ∃ w0, w.alloc (.cells #[.slice s.first.la s.first.ls.length s.first.lc, .slice s.first.ra s.first.rs.length s.first.rc, .slice s.first.ca s.first.cs.length s.first.cc, .slice s.ta s.ts.length s.tc, .slice s.pa s.ps.length s.pc] 30) = w0 := ⟨_, rfl⟩
  have B0 : Below w.heap.size w w0 := by rw [← hw0]; exact boxed _ _
  have hbx := scr_box w (.slice s.first.la s.first.ls.length s.first.lc) (.slice s.first.ra s.first.rs.length s.first.rc) (.slice s.first.ca s.first.cs.length s.first.cc) (.slice s.ta s.ts.length s.tc) (.slice s.pa s.ps.length s.pc) 30
  rw [hw0] at hbx
  have hk := big_is s.first w0 (h.next B0).fi
  obtain ⟨f0, f1, f2, f3, f4⟩ := hbx w0 (Below.refl _ _)
  obtain ⟨R, hR⟩ : ∃ R, bigQ s = R := ⟨_, rfl⟩
  rw [hR]
  unfold bigQ at hR
  obtain ⟨p, hp⟩ : ∃ p, bigB s.first.ls s.first.rs s.first.cs = p := ⟨_, rfl⟩
  obtain ⟨d1, hd1⟩ : ∃ d, decide ((20 : Int) < (s.ts.length : Int)) = d := ⟨_, rfl⟩
  obtain ⟨d2, hd2⟩ : ∃ d, decide ((5000 : Int) < (s.ps.length : Int)) = d := ⟨_, rfl⟩
  rw [hp] at hk hR
  rw [hd1, hd2] at hR
  have HR := Lib.hid hR
  have HI := Lib.hid (h.next B0)
  have HBX := Lib.hid hbx
  have BB := Lib.hid B0
  have ht1 := Nat.le_trans h.tl h.tm
  have hp1 := Nat.le_trans h.pl h.pm
  unfold maxLen at ht1 hp1
  clear h B0 hbx hp hR
  unfold Scr.val
  unfold Cfg.val at hk
  go_enter Try.func8, Try.ntmps8
  go_wp2_with fail
  refine hk.mono ?_
  rintro e W ⟨rfl, k1⟩
  clear f0 f1 f2 f3 f4 hk hw0
  obtain ⟨f0, f1, f2, f3, f4⟩ := HBX.out W k1
  have BW := Lib.hid (below_next BB.out k1)
  have K1 := Lib.hid k1
  cases p with
  | true =>
    have HF : Hid (R = true) := Lib.hid (by rw [← HR.out]; rfl)
    go_wp2_with fail
    go_ret
    exact ⟨ret_bool HF.out.symm, BW.out⟩
  | false =>
  cases d1 with
  | true =>
    have HF : Hid (R = true) := Lib.hid (by rw [← HR.out]; rfl)
    go_wp2_with fail
    go_ret
    exact ⟨ret_bool HF.out.symm, BW.out⟩
  | false =>
  cases d2 with
  | true =>
    have HF : Hid (R = true) := Lib.hid (by rw [← HR.out]; rfl)
    go_wp2_with fail
    go_ret
    exact ⟨ret_bool HF.out.symm, BW.out⟩
  | false =>
  have HR2 : Hid (s.ts.any bigT = R) := Lib.hid (by rw [← HR.out]; rfl)
  clear HR
  go_wp2_with fail
  clear hd1 hd2 k1 f0 f1 f2 f3 f4
  go_loopg [3] s.ts.length (fun g i wr => ∃ k : Nat, k ≤ s.ts.length ∧ g = s.ts.length - k ∧ i = .int .i64 k ∧ (s.ts.take k).any bigT = false ∧ Below w0.heap.size w0 wr)
  case atStart => exact ⟨0, Nat.zero_le _, rfl, rfl, rfl, K1.out⟩
  case round =>
    obtain ⟨k, hk, rfl, rfl, hany, BR⟩ := hrel
    have HA := Lib.hid hany
    clear hany
    obtain ⟨f0, f1, f2, f3, f4⟩ := HBX.out _ BR
    have HBR := Lib.hid BR
    clear f0 f1 f2 f4
    by_cases hlt : k < s.ts.length
    · obtain ⟨ad, e, hadb, _⟩ := HI.out.thread hlt
      obtain ⟨ad2, e2, _, g0⟩ := (HI.out.below BR).thread hlt
      rw [e] at e2
      cases e2
      have hno : bigT s.ts[k] = true → R = true := fun hf => by
        rw [← HR2.out]
        exact any_hit hlt hf
      have hti := HI.out.ti _ (List.getElem_mem hlt)
      have hyes := any_next (p := bigT) hlt
      obtain ⟨t, ht⟩ : ∃ t, s.ts[k] = t := ⟨_, rfl⟩
      rw [ht] at g0 hti hno hyes
      have HTT := Lib.hid ht
      have HT := Lib.hid hti
      have HNO := Lib.hid hno
      have HY := Lib.hid hyes
      have hol := Nat.le_trans hti.ol hti.om
      unfold maxLen at hol
      clear ht hti hno hyes BR
      rw [e] at f3
      have HE := Lib.hid e
      clear e
      obtain ⟨b40, hb40⟩ : ∃ b, decide ((40 : Int) < (t.os.length : Int)) = b := ⟨_, rfl⟩
      have HB40 := Lib.hid hb40
      cases b40 with
      | true =>
        have HF : Hid (R = true) := Lib.hid (HNO.out (by rw [bigT, HB40.out]; rfl))
        go_wp2_with fail
        go_ret
        exact ⟨ret_bool HF.out.symm, below_next BB.out HBR.out⟩
      | false =>
        go_wp2_with fail
        clear g0 f3 hb40
        go_loopg [4] t.os.length (fun g i wi => ∃ q : Nat, q ≤ t.os.length ∧ g = t.os.length - q ∧ i = .int .i64 q ∧ (t.os.take q).any bigO = false ∧ Below w0.heap.size w0 wi)
        case atStart => exact ⟨0, Nat.zero_le _, rfl, rfl, rfl, HBR.out⟩
        case round =>
          obtain ⟨q, hq, rfl, rfl, hops, BI⟩ := hrel
          have HOP := Lib.hid hops
          obtain ⟨f0, f1, f2, f3, f4⟩ := HBX.out _ BI
          obtain ⟨ad2, e2, _, g0⟩ := (HI.out.below BI).thread hlt
          rw [HE.out] at e2 f3
          cases e2
          rw [HTT.out] at g0
          clear hops f0 f1 f2 f4
          have HBI := Lib.hid BI
          by_cases hql : q < t.os.length
          · obtain ⟨ad', e', hb', hten0⟩ := HT.out.op hql
            have hten := hten0.below (by rw [block_of_add]; exact hb') BI
            have hyo := any_next (p := bigO) hql
            have hno : bigO t.os[q] = true → R = true := fun hf => HNO.out (by rw [bigT, any_hit hql hf, Bool.or_true])
            have hcf := HT.out.oi _ (List.getElem_mem hql)
            obtain ⟨o, ho⟩ : ∃ o, t.os[q] = o := ⟨_, rfl⟩
            rw [ho] at hten hno hyo hcf
            obtain ⟨x0, x1, x2, x3, x4, x5, x6, x7, x8, x9⟩ := hten
            have HNOO := Lib.hid hno
            have HYO := Lib.hid hyo
            rw [e'] at g0
            clear e'
            obtain ⟨w4, hw4⟩ : ∃ w4, wr.alloc (.cells #[.int .i64 o.kind, .string o.listen, .string o.host, .string o.path, .int .i64 o.d0, .int .i64 o.d1, .int .i64 o.n, .slice o.cfg.la o.cfg.ls.length o.cfg.lc, .slice o.cfg.ra o.cfg.rs.length o.cfg.rc, .slice o.cfg.ca o.cfg.cs.length o.cfg.cc] 49) = w4 := ⟨_, rfl⟩
            have hbox : Ten w4 ⟨wr.heap.size, 0, none⟩ o := by rw [← hw4]; exact ten_box wr o
            have B4 : Below w0.heap.size w0 w4 := by rw [← hw4]; exact below_next BI (boxed wr _)
            have hlt4 : wr.heap.size < w4.heap.size := by rw [← hw4]; simp
            have hcall := big_is o.cfg w4 ((hcf.below B4).more B4.size)
            obtain ⟨y0, y1, y2, y3, y4, y5, y6, y7, y8, y9⟩ := hbox
            have HY2 := Lib.hid y2
            have HY3 := Lib.hid y3
            obtain ⟨bb, hbb⟩ : ∃ bb, bigB o.cfg.ls o.cfg.rs o.cfg.cs = bb := ⟨_, rfl⟩
            rw [hbb] at hcall
            have HBB := Lib.hid hbb
            unfold Cfg.val at hcall
            clear hten0 hno hyo hcf ho BI hbb y0 y1 y4 y5 y6
            obtain ⟨dh, hdh⟩ : ∃ d, decide ((100 : Int) < (o.host.size : Int)) = d := ⟨_, rfl⟩
            obtain ⟨dp, hdp⟩ : ∃ d, decide ((100 : Int) < (o.path.size : Int)) = d := ⟨_, rfl⟩
            have HDH := Lib.hid hdh
            have HDP := Lib.hid hdp
            go_wp2_with fail
            refine hcall.mono ?_
            rintro e5 W5 ⟨rfl, kk⟩
            have B5 := Lib.hid (below_next B4 kk)
            have z2 := (kk.cell (p := ⟨wr.heap.size, 2, none⟩) hlt4).trans HY2.out
            have z3 := (kk.cell (p := ⟨wr.heap.size, 3, none⟩) hlt4).trans HY3.out
            clear x0 x1 x2 x3 x4 x5 x6 x7 x8 x9 y7 y8 y9 hcall kk B4 hw4 hlt4 y2 y3 f3 g0
            cases bb with
            | true =>
              have HF : Hid (R = true) := Lib.hid (HNOO.out (by rw [bigO, HBB.out]; rfl))
              go_wp2_with fail
              go_ret
              exact ⟨ret_bool HF.out.symm, below_next BB.out B5.out⟩
            | false =>
            cases dh with
            | true =>
              have HF : Hid (R = true) := Lib.hid (HNOO.out (by rw [bigO, HBB.out, HDH.out]; rfl))
              go_wp2_with fail
              go_ret
              exact ⟨ret_bool HF.out.symm, below_next BB.out B5.out⟩
            | false =>
            cases dp with
            | true =>
              have HF : Hid (R = true) := Lib.hid (HNOO.out (by rw [bigO, HBB.out, HDH.out, HDP.out]; rfl))
              go_wp2_with fail
              go_ret
              exact ⟨ret_bool HF.out.symm, below_next BB.out B5.out⟩
            | false =>
              have HOK : Hid (bigO o = false) := Lib.hid (by rw [bigO, HBB.out, HDH.out, HDP.out]; rfl)
              go_wp2_with fail
              go_roundg (t.os.length - (q + 1))
              case measure => omega
              case rel => exact ⟨q + 1, by omega, rfl, by go_num, by rw [HYO.out, HOP.out, HOK.out]; rfl, B5.out⟩
          · obtain rfl : q = t.os.length := by omega
            have HOK : Hid (bigT t = false) := Lib.hid (by
              have := HOP.out
              rw [List.take_length] at this
              rw [bigT, this, HB40.out]; rfl)
            go_wp2_with fail
            go_roundg (s.ts.length - (k + 1))
            case measure => omega
            case rel => exact ⟨k + 1, by omega, rfl, by go_num, by rw [HY.out, HA.out, HOK.out]; rfl, HBI.out⟩
    · have HF : Hid (R = false) := Lib.hid (by
        rw [← HR2.out]
        have := HA.out
        rwa [List.take_of_length_le (by omega)] at this)
      go_wp2_with fail
      go_ret
      exact ⟨ret_bool HF.out.symm, below_next BB.out HBR.out⟩
end Go.Proofs.Ytmjdamcbdclgpaa
