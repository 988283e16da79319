/- The walk of ConfigLess. -/
import Derived.Test.YtlaibkinkopkiaaCchecks
import Derived.Test.YtlaibkinkopkiaaCok
import Derived.Test.YtlaibkinkopkiaaCrl
namespace Go.Proofs.Ytlaibkinkopkiaa
open Go.RowKit
set_option linter.unusedVariables false
set_option linter.unusedSimpArgs false
set_option maxRecDepth 100000

theorem good_less_check {ls : List ByteArray} {rs : List Rt} {cs : List Cl} (h : (checkI ls rs cs).1 = 0) (h2 : 2 ≤ rs.length) : checkI ls (rs.take (rs.length - 1)) cs = (0, 0) :=
  check_zero (good_iff.2 (good_less (good_iff.1 h) h2))

set_option maxHeartbeats 2000000 in
theorem configLess_walk (c : Cfg) (w : World) (h : CfgIn w w.heap.size c) :
    Calls Try.prog 4 #[c.val] w fun e w' => e = .returned (.bool true) ∧ Below w.heap.size w w' := by
  have hB := fun W (h : CfgIn W W.heap.size c) => big_is c W h
  have hC := fun W (h : CfgIn W W.heap.size c) => check_is c W h
  have hL : (checkI c.ls c.rs c.cs).1 = 0 → 2 ≤ c.rs.length → checkI c.ls (c.rs.take (c.rs.length - 1)) c.cs = (0, 0) := good_less_check
  obtain ⟨b, hb⟩ : ∃ b, bigB c.ls c.rs c.cs = b := ⟨_, rfl⟩
  rw [hb] at hB
  have HIN := Lib.hid h
  have hrm : c.rs.length ≤ 2 ^ 63 - 1 := Nat.le_trans h.rl h.rm
  have hrl := h.rl
  clear h hb
  generalize checkI c.ls c.rs c.cs = p at hC hL
  have B := boxed w (.cells #[.slice c.la c.ls.length c.lc, .slice c.ra c.rs.length c.rc, .slice c.ca c.cs.length c.cc] 26)
  have hc := hC _ ((HIN.out.below B).more B.size)
  unfold Cfg.val at *
  have HB := Lib.hid hB
  have HL := Lib.hid hL
  clear hB hC hL
  go_enter Try.func4, Try.ntmps4
  go_wp2_with fail
  refine hc.mono ?_
  rintro e W ⟨rfl, kk⟩
  obtain ⟨v0, v1, v2⟩ := box3 kk
  have KK := Lib.hid kk
  have B1 := below_next B kk
  clear hc kk B
  have hb := HB.out W ((HIN.out.below B1).more B1.size)
  go_wp2_with fail
  refine hb.mono ?_
  rintro e W2 ⟨rfl, kk⟩
  have k2 := KK.out.trans (kk.mono KK.out.size)
  have B2 := below_next B1 kk
  clear v0 v1 v2 hb kk KK B1
  obtain ⟨v0, v1, v2⟩ := box3 k2
  have K2 := Lib.hid k2
  clear k2
  cases b with
  | true =>
    go_wp2_with fail
    refine (checked_is W2).mono ?_
    rintro e W3 ⟨rfl, kk⟩
    have B3 := below_next B2 kk
    clear kk v0 v1 v2
    go_wp2_with fail
    go_ret
    exact ⟨rfl, B3⟩
  | false =>
  by_cases hz : p.1 = 0
  case neg =>
    have hne : (p.1 != 0) = true := by simpa using hz
    clear hz
    go_wp2_with fail
    refine (checked_is W2).mono ?_
    rintro e W3 ⟨rfl, kk⟩
    have B3 := below_next B2 kk
    clear kk v0 v1 v2
    go_wp2_with fail
    go_ret
    exact ⟨rfl, B3⟩
  case pos =>
  have hne : (p.1 != 0) = false := by simpa using hz
  have HZ := Lib.hid hz
  clear hz
  by_cases hn : c.rs.length < 2
  case pos =>
    have hn' : decide ((c.rs.length : Int) < 2) = true := by simp; omega
    clear hn
    go_wp2_with fail
    refine (checked_is W2).mono ?_
    rintro e W3 ⟨rfl, kk⟩
    have B3 := below_next B2 kk
    clear kk v0 v1 v2
    go_wp2_with fail
    go_ret
    exact ⟨rfl, B3⟩
  case neg =>
  have hn' : decide ((c.rs.length : Int) < 2) = false := by simp; omega
  have h0 : 0 < c.rs.length := by omega
  have hx := HL.out HZ.out (by omega)
  obtain ⟨ad, e⟩ := HIN.out.rad h0
  rw [e] at v1
  have E := Lib.hid e
  clear e
  have hlt : w.heap.size < W2.heap.size := by have := K2.out.size; simp at this; omega
  have BA := boxed W2 (.cells #[.slice c.la c.ls.length c.lc, .slice (some ad) c.rs.length c.rc, .slice c.ca c.cs.length c.cc] 26)
  have a1 := (BA.cell (p := ⟨w.heap.size, 1, none⟩) hlt).trans v1
  obtain ⟨r, hr⟩ : ∃ r, r + 1 = c.rs.length := ⟨c.rs.length - 1, by omega⟩
  have x1 : ((c.rs.length : Int) - 1) = (r : Int) := by omega
  have x2 : r ≤ c.rc := by omega
  have HRr := Lib.hid hr
  have HX := Lib.hid hx
  clear hr hx hn
  have B3 : Below w.heap.size w (W2.alloc (.cells #[.slice c.la c.ls.length c.lc, .slice (some ad) r c.rc, .slice c.ca c.cs.length c.cc] 26)) := B2.alloc B2.size _
  have hc : Calls Try.prog 9 #[.agg #[.slice c.la c.ls.length c.lc, .slice (some ad) r c.rc, .slice c.ca c.cs.length c.cc]] (W2.alloc (.cells #[.slice c.la c.ls.length c.lc, .slice (some ad) r c.rc, .slice c.ca c.cs.length c.cc] 26))
      (Tells2 (W2.alloc (.cells #[.slice c.la c.ls.length c.lc, .slice (some ad) r c.rc, .slice c.ca c.cs.length c.cc] 26)) (0, 0)) := by
    have hI := (HIN.out.below B3).more B3.size
    have hr := HRr.out
    have hpr := hI.pr.take r
    rw [E.out, ← List.map_take] at hpr
    have hcut := check_is ⟨c.la, c.lc, c.ls, some ad, c.rc, c.rs.take r, c.ca, c.cc, c.cs⟩ _ ⟨hI.pl, hpr, hI.pc, hI.ll, by show (c.rs.take r).length ≤ c.rc; rw [List.length_take]; omega, hI.cl, hI.lm, hI.rm, hI.cm, hI.wf⟩
    have hx := HX.out
    rw [show c.rs.length - 1 = r by omega] at hx
    have hl : (c.rs.take r).length = r := by rw [List.length_take]; omega
    unfold Cfg.val at hcut
    simp only at hcut
    rw [hx, hl] at hcut
    exact hcut
  go_wp2_with fail
  refine hc.mono ?_
  rintro e W3 ⟨rfl, kk⟩
  have B4 := below_next B3 kk
  clear hc kk v0 v1 v2 a1 BA B3 B2
  go_wp2_with fail
  refine (checked_is W3).mono ?_
  rintro e W4 ⟨rfl, kk⟩
  have B5 := below_next B4 kk
  clear kk
  go_wp2_with fail
  go_ret
  exact ⟨rfl, B5⟩
end Go.Proofs.Ytlaibkinkopkiaa
