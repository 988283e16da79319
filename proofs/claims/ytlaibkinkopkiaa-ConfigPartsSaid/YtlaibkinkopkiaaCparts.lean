/- The walk of ConfigParts. -/
import Derived.Test.YtlaibkinkopkiaaCchecks
import Derived.Test.YtlaibkinkopkiaaCok
import Derived.Test.YtlaibkinkopkiaaCrl
namespace Go.Proofs.Ytlaibkinkopkiaa
open Go.RowKit
set_option linter.unusedVariables false
set_option linter.unusedSimpArgs false
set_option maxRecDepth 100000

theorem goodR_out {ls : List ByteArray} {cs : List Cl} {r : Rt} (h : goodR ls cs r = true) : hasL ls r.listen = true ∧ patternB r.host = true ∧ pathB r.path = true ∧ hasC cs r.cluster = true := by
  unfold goodR at h
  simpa only [Bool.and_eq_true] using h
theorem goodC_out {x : Cl} (h : goodC x = true) : nameB x.name = true ∧ (1 ≤ x.slots ∧ x.slots ≤ 4) ∧ (1 ≤ (x.hn : Int) ∧ (x.hn : Int) ≤ 4) := by
  unfold goodC at h
  simp only [Bool.and_eq_true, within_iff] at h
  exact ⟨h.1, h.2.2⟩

set_option maxHeartbeats 4000000 in
theorem configParts_walk (c : Cfg) (w : World) (h : CfgIn w w.heap.size c) :
    Calls Try.prog 7 #[c.val] w fun e w' => e = .returned (.bool true) ∧ Below w.heap.size w w' := by
  have hB := fun W (h : CfgIn W W.heap.size c) => big_is c W h
  have hC := fun W (h : CfgIn W W.heap.size c) => check_is c W h
  have hG : (checkI c.ls c.rs c.cs).1 = 0 → Good c.ls c.rs c.cs := good_iff.1
  obtain ⟨b, hb⟩ : ∃ b, bigB c.ls c.rs c.cs = b := ⟨_, rfl⟩
  rw [hb] at hB
  have HIN := Lib.hid h
  have hrm : c.rs.length ≤ 2 ^ 63 - 1 := Nat.le_trans h.rl h.rm
  have hcm : c.cs.length ≤ 2 ^ 63 - 1 := Nat.le_trans h.cl h.cm
  clear h hb
  generalize checkI c.ls c.rs c.cs = p at hC hG
  have B := boxed w (.cells #[.slice c.la c.ls.length c.lc, .slice c.ra c.rs.length c.rc, .slice c.ca c.cs.length c.cc] 26)
  have hc := hC _ ((HIN.out.below B).more B.size)
  unfold Cfg.val at *
  have HB := Lib.hid hB
  have HG := Lib.hid hG
  clear hB hC hG
  go_enter Try.func7, Try.ntmps7
  go_wp2_with fail
  refine hc.mono ?_
  rintro e W ⟨rfl, kk⟩
  obtain ⟨v0, v1, v2⟩ := box3 kk
  have KK := Lib.hid kk
  have B1 := below_next B kk
  have BX := Lib.hid B
  clear hc kk B
  have hb := HB.out W ((HIN.out.below B1).more B1.size)
  go_wp2_with fail
  refine hb.mono ?_
  rintro e W2 ⟨rfl, kk⟩
  have k2 := KK.out.trans (kk.mono KK.out.size)
  have B2 := below_next B1 kk
  clear v0 v1 v2 hb kk KK B1
  cases b with
  | true =>
    go_wp2_with fail
    refine (checked_is W2).mono ?_
    rintro e W3 ⟨rfl, kk⟩
    have B3 := below_next B2 kk
    clear kk
    go_wp2_with fail
    go_ret
    exact ⟨rfl, B3⟩
  | false =>
  by_cases hz : p.1 = 0
  case neg =>
    have hne : (p.1 != 0) = true := by simpa using hz
    clear hz
    go_wp2_with fail
    refine (checked_is W2).mono ?_
    rintro e W3 ⟨rfl, kk⟩
    have B3 := below_next B2 kk
    clear kk
    go_wp2_with fail
    go_ret
    exact ⟨rfl, B3⟩
  case pos =>
  have hne : (p.1 != 0) = false := by simpa using hz
  have GD := Lib.hid (HG.out hz)
  clear hz B2
  go_wp2_with fail
  clear hne
  generalize hbx : w.alloc (.cells #[.slice c.la c.ls.length c.lc, .slice c.ra c.rs.length c.rc, .slice c.ca c.cs.length c.cc] 26) = wb at *
  have V3 : ∀ W : World, Below wb.heap.size wb W → W.cell? ⟨w.heap.size, 0, none⟩ = some (.slice c.la c.ls.length c.lc) ∧ W.cell? ⟨w.heap.size, 1, none⟩ = some (.slice c.ra c.rs.length c.rc) ∧ W.cell? ⟨w.heap.size, 2, none⟩ = some (.slice c.ca c.cs.length c.cc) := by
    subst hbx
    intro W hW
    exact box3 hW
  have VV := Lib.hid V3
  clear V3
  clear hbx
  go_loopg [5] c.rs.length (fun g i wr => ∃ k : Nat, k ≤ c.rs.length ∧ g = c.rs.length - k ∧ i = .int .i64 k ∧ Below wb.heap.size wb wr)
  case atStart => exact ⟨0, Nat.zero_le _, rfl, rfl, k2⟩
  case round =>
    clear k2
    obtain ⟨k, hk, rfl, rfl, B⟩ := hrel
    by_cases hlt : k < c.rs.length
    · obtain ⟨ad, e⟩ := HIN.out.rad hlt
      have BT := BX.out.trans (B.mono BX.out.size)
      obtain ⟨f0, f1, f2, f3⟩ := HIN.out.rcell e hlt BT
      obtain ⟨v0, v1, v2⟩ := VV.out _ B
      rw [e] at v1
      clear e v0 v2
      obtain ⟨q1, q2, q3, q4⟩ := goodR_out (GD.out.r _ (rAt_mem hlt))
      generalize rAt c.rs k = r at f0 f1 f2 f3 q1 q2 q3 q4
      have B5 : Below wb.heap.size wb (wr.alloc (.cells #[.string r.listen, .string r.host, .string r.path, .string r.cluster] 36)) := B.alloc B.size _
      have B6 := BX.out.trans (B5.mono BX.out.size)
      obtain ⟨y0, y1, y2⟩ := VV.out _ B5
      have hli := rListen_is c.la c.lc w.heap.size c.ls r.listen _ (HIN.out.pl.below B6) HIN.out.ll HIN.out.lm
      have hcl := rCluster_is c.ca c.cc w.heap.size c.cs r.cluster _ (HIN.out.pc.below B6) HIN.out.cl HIN.out.cm
      have hpa := pattern_is r.host (wr.alloc (.cells #[.string r.listen, .string r.host, .string r.path, .string r.cluster] 36))
      have hpt := fun W => path_is r.path W
      rw [q1] at hli
      rw [q2] at hpa
      rw [q3] at hpt
      rw [q4] at hcl
      have X0 := Lib.hid (four_in4' wr (.string r.listen) (.string r.host) (.string r.path) (.string r.cluster) 36)
      have HS2 := Lib.hid (World.size_alloc wr (.cells #[.string r.listen, .string r.host, .string r.path, .string r.cluster] 36))
      clear q1 q2 q3 q4
      go_wp2_with (first | (go_at_call 12; ((with_reducible refine hli.mono ?_); rintro e wx ⟨r1, rfl, i1, i2, rfl⟩)) | (go_at_call 13; ((with_reducible refine hcl.mono ?_); rintro e wx ⟨r2, rfl, i3, i4, rfl⟩)) |
        (go_at_call 14; ((with_reducible refine hpa.mono ?_); rintro e V ⟨rfl, kk⟩; have B7 := B5.trans (kk.mono B5.size); obtain ⟨x0, x1, x2, x3⟩ := four_below (by rw [HS2.out]; omega) X0.out kk; clear x0 x1 x3 kk)) |
        (go_at_call 15; ((with_reducible refine (hpt _).mono ?_); rintro e V2 ⟨rfl, kk⟩; replace B7 := B7.trans (kk.mono B7.size); clear kk)))
      go_roundg (c.rs.length - (k + 1))
      case measure => omega
      case rel => exact ⟨k + 1, by omega, rfl, by go_num, B7⟩
    · obtain ⟨v0, v1, v2⟩ := VV.out _ B
      go_wp2_with fail
      clear v0 v1 v2
      go_loopg [7] c.cs.length (fun g i wr => ∃ k : Nat, k ≤ c.cs.length ∧ g = c.cs.length - k ∧ i = .int .i64 k ∧ Below wb.heap.size wb wr)
      case atStart => exact ⟨0, Nat.zero_le _, rfl, rfl, B⟩
      case round =>
        clear B hlt hk
        obtain ⟨k, hk, rfl, rfl, B⟩ := hrel
        by_cases hlt : k < c.cs.length
        · obtain ⟨ad, e⟩ := HIN.out.cad hlt
          have BT := BX.out.trans (B.mono BX.out.size)
          obtain ⟨f0, f1, f2, f3⟩ := HIN.out.ccell e hlt BT
          obtain ⟨v0, v1, v2⟩ := VV.out _ B
          rw [e] at v2
          clear e v0 v1
          obtain ⟨q1, q2, q3⟩ := goodC_out (GD.out.c (cAt c.cs k) (by rw [cAt_get hlt]; exact List.getElem_mem hlt))
          generalize cAt c.cs k = x at f0 f1 f2 f3 q1 q2 q3
          have B5 : Below wb.heap.size wb (wr.alloc (.cells #[.string x.name, .int .i64 x.policy, .int .i64 x.slots, .slice x.ha x.hn x.hc] 34)) := B.alloc B.size _
          have hn := name_is x.name (wr.alloc (.cells #[.string x.name, .int .i64 x.policy, .int .i64 x.slots, .slice x.ha x.hn x.hc] 34))
          rw [q1] at hn
          have t1 : decide (x.slots < 1) = false := by simp; omega
          have t2 : decide (4 < x.slots) = false := by simp; omega
          have t3 : decide ((x.hn : Int) < 1) = false := by simp; omega
          have t4 : decide (4 < (x.hn : Int)) = false := by simp; omega
          have X0 := Lib.hid (four_in4' wr (.string x.name) (.int .i64 x.policy) (.int .i64 x.slots) (.slice x.ha x.hn x.hc) 34)
          have HS2 := Lib.hid (World.size_alloc wr (.cells #[.string x.name, .int .i64 x.policy, .int .i64 x.slots, .slice x.ha x.hn x.hc] 34))
          clear q1 q2 q3
          go_wp2_with (go_at_call 16; ((with_reducible refine hn.mono ?_); rintro e V ⟨rfl, kk⟩; have B7 := B5.trans (kk.mono B5.size); obtain ⟨x0, x1, x2, x3⟩ := four_below (by rw [HS2.out]; omega) X0.out kk; clear x0 x1 kk))
          go_roundg (c.cs.length - (k + 1))
          case measure => omega
          case rel => exact ⟨k + 1, by omega, rfl, by go_num, B7⟩
        · obtain ⟨v0, v1, v2⟩ := VV.out _ B
          go_wp2_with fail
          refine (checked_is wr).mono ?_
          rintro e V ⟨rfl, kk⟩
          have B3 := B.trans (kk.mono B.size)
          clear v0 v1 v2 kk
          obtain ⟨v0, v1, v2⟩ := VV.out _ B3
          have ff := fits_iff.1 GD.out.fits
          have t1 : decide (1 ≤ (c.ls.length : Int)) = true := by simp; omega
          have t2 : decide ((c.ls.length : Int) ≤ 4) = true := by simp; omega
          have t3 : decide (1 ≤ (c.rs.length : Int)) = true := by simp; omega
          have t4 : decide ((c.rs.length : Int) ≤ 8) = true := by simp; omega
          clear ff
          go_wp2_with fail
          go_ret
          exact ⟨rfl, BX.out.trans (B3.mono BX.out.size)⟩
end Go.Proofs.Ytlaibkinkopkiaa
