/- The document's Check answers what checkI says. -/
import Derived.Test.YtmjdamcbdclgpaaCrc
import Derived.Test.YtmjdamcbdclgpaaCrr
namespace Go.Proofs.Ytmjdamcbdclgpaa
open Go.RowKit
set_option linter.unusedVariables false
set_option linter.unusedSimpArgs false
set_option maxRecDepth 100000

theorem within_not (n m : Int) : withinB n m = (!decide (n < 1) && !decide (m < n)) := by
  unfold withinB
  rw [← decide_not, ← decide_not]
  congr 1 <;> exact decide_eq_decide.2 (by omega)

set_option maxHeartbeats 4000000 in
theorem rcheck_is (c : Cfg) (w : World) (h : CfgIn w w.heap.size c) (hbig : ∀ r ∈ c.rs, r.host.size ≤ 2000) : Calls Try.prog 27 #[c.val] w (Tells2 w (checkI c.ls c.rs c.cs)) := by
  have HF1 := Lib.hid (fun W h => rlistens_is c W h)
  have HF2 := Lib.hid (fun W h => rclusters_is c W h)
  have HF3 := Lib.hid (fun W h => rroutes_is c W h hbig)
  unfold checkI fitsB
  rw [within_not, within_not, within_not]
  have HLz : (kindI3 (asksL c.ls) c.ls.length).1 = 0 → True := fun _ => trivial
  clear HLz hbig
  generalize kindI3 (asksL c.ls) c.ls.length = L at *
  generalize kindI3 (asksC c.cs) c.cs.length = C at *
  generalize kindI3 (asksR c.ls c.rs c.cs) c.rs.length = R at *
  have HIN := Lib.hid h
  clear h
  have B := boxed w (.cells #[.slice c.la c.ls.length c.lc, .slice c.ra c.rs.length c.rc, .slice c.ca c.cs.length c.cc] 26)
  have hcl := HF1.out _ ((HIN.out.below B).more B.size)
  have CELL := Lib.hid (cell_in3 w (.slice c.la c.ls.length c.lc) (.slice c.ra c.rs.length c.rc) (.slice c.ca c.cs.length c.cc) 26)
  have HSZ := Lib.hid (World.size_alloc w (.cells #[.slice c.la c.ls.length c.lc, .slice c.ra c.rs.length c.rc, .slice c.ca c.cs.length c.cc] 26))
  unfold Cfg.val at hcl HF2 HF3 ⊢
  obtain ⟨a1, ha1⟩ : ∃ b, decide ((c.ls.length : Int) < 1) = b := ⟨_, rfl⟩
  obtain ⟨a2, ha2⟩ : ∃ b, decide (4 < (c.ls.length : Int)) = b := ⟨_, rfl⟩
  obtain ⟨b1, hb1⟩ : ∃ b, decide ((c.rs.length : Int) < 1) = b := ⟨_, rfl⟩
  obtain ⟨b2, hb2⟩ : ∃ b, decide (8 < (c.rs.length : Int)) = b := ⟨_, rfl⟩
  obtain ⟨c1, hc1⟩ : ∃ b, decide ((c.cs.length : Int) < 1) = b := ⟨_, rfl⟩
  obtain ⟨c2, hc2⟩ : ∃ b, decide (4 < (c.cs.length : Int)) = b := ⟨_, rfl⟩
  rw [ha1, ha2, hb1, hb2, hc1, hc2]
  cases a1 with
  | true =>
    clear hcl
    go_enter Try.func27, Try.ntmps27
    go_wp2_with fail
    go_ret2
    exact (show Tells2 w (6, 0) _ _ from ⟨rfl, B⟩).of (by cases a2 <;> cases b1 <;> cases b2 <;> cases c1 <;> cases c2 <;> rfl)
  | false =>
  cases a2 with
  | true =>
    clear hcl
    go_enter Try.func27, Try.ntmps27
    go_wp2_with fail
    go_ret2
    exact (show Tells2 w (6, 0) _ _ from ⟨rfl, B⟩).of (by cases b1 <;> cases b2 <;> cases c1 <;> cases c2 <;> rfl)
  | false =>
  cases b1 with
  | true =>
    clear hcl
    go_enter Try.func27, Try.ntmps27
    go_wp2_with fail
    go_ret2
    exact (show Tells2 w (6, 0) _ _ from ⟨rfl, B⟩).of (by cases b2 <;> cases c1 <;> cases c2 <;> rfl)
  | false =>
  cases b2 with
  | true =>
    clear hcl
    go_enter Try.func27, Try.ntmps27
    go_wp2_with fail
    go_ret2
    exact (show Tells2 w (6, 0) _ _ from ⟨rfl, B⟩).of (by cases c1 <;> cases c2 <;> rfl)
  | false =>
  cases c1 with
  | true =>
    clear hcl
    go_enter Try.func27, Try.ntmps27
    go_wp2_with fail
    go_ret2
    exact (show Tells2 w (6, 0) _ _ from ⟨rfl, B⟩).of (by cases c2 <;> rfl)
  | false =>
  cases c2 with
  | true =>
    clear hcl
    go_enter Try.func27, Try.ntmps27
    go_wp2_with fail
    go_ret2
    exact (show Tells2 w (6, 0) _ _ from ⟨rfl, B⟩).of (by rfl)
  | false =>
  simp only [Bool.not_false, Bool.and_self, cond_true]
  go_enter Try.func27, Try.ntmps27
  go_wp2_with fail
  refine hcl.mono ?_
  rintro e V ⟨rfl, kk⟩
  have B1 := below_next B kk
  obtain ⟨g0, g1, g2⟩ := CELL.out
  have v0 := (kk.cell (p := ⟨w.heap.size, 0, none⟩) (by rw [HSZ.out]; simp)).trans g0
  have v1 := (kk.cell (p := ⟨w.heap.size, 1, none⟩) (by rw [HSZ.out]; simp)).trans g1
  have v2 := (kk.cell (p := ⟨w.heap.size, 2, none⟩) (by rw [HSZ.out]; simp)).trans g2
  have hc2 := HF2.out V ((HIN.out.below B1).more B1.size)
  have KK := Lib.hid kk
  clear g0 g1 g2 kk hcl
  by_cases hz : L.1 = 0
  · have hb : (L.1 != 0) = false := by simpa using hz
    have HL : Hid (∀ p, thenI L p = p) := Lib.hid (fun p => by simp [thenI, hz])
    clear hz
    go_wp2_with fail
    refine hc2.mono ?_
    rintro e V2 ⟨rfl, kk⟩
    have k2 := KK.out.trans (kk.mono KK.out.size)
    have B2 := below_next B1 kk
    obtain ⟨g0, g1, g2⟩ := CELL.out
    clear v0 v1 v2 hc2 kk hb
    have v0 := (k2.cell (p := ⟨w.heap.size, 0, none⟩) (by rw [HSZ.out]; simp)).trans g0
    have v1 := (k2.cell (p := ⟨w.heap.size, 1, none⟩) (by rw [HSZ.out]; simp)).trans g1
    have v2 := (k2.cell (p := ⟨w.heap.size, 2, none⟩) (by rw [HSZ.out]; simp)).trans g2
    have hc3 := HF3.out V2 ((HIN.out.below B2).more B2.size)
    clear g0 g1 g2 k2
    by_cases hz : C.1 = 0
    · have hb : (C.1 != 0) = false := by simpa using hz
      have HC : Hid (∀ p, thenI C p = p) := Lib.hid (fun p => by simp [thenI, hz])
      clear hz
      go_wp2_with fail
      refine hc3.mono ?_
      rintro e V3 ⟨rfl, kk⟩
      have B3 := below_next B2 kk
      clear v0 v1 v2 hc3 kk hb
      go_wp2_with fail
      go_ret2
      rw [HL.out, HC.out]
      exact ⟨rfl, B3⟩
    · have hb : (C.1 != 0) = true := by simpa using hz
      have HC : Hid (∀ p, thenI C p = C) := Lib.hid (fun p => by simp [thenI, show (C.1 == 0) = false by simpa using hz])
      clear hz hc3
      go_wp2_with fail
      go_ret2
      rw [HL.out, HC.out]
      exact ⟨rfl, B2⟩
  · have hb : (L.1 != 0) = true := by simpa using hz
    have HL : Hid (∀ p, thenI L p = L) := Lib.hid (fun p => by simp [thenI, show (L.1 == 0) = false by simpa using hz])
    clear hz hc2
    go_wp2_with fail
    go_ret2
    rw [HL.out]
    exact ⟨rfl, B1⟩
end Go.Proofs.Ytmjdamcbdclgpaa
