/- config.Check answers what checkI says: the walk over the three kinds. -/
import Derived.Test.YtmjdamcbdclgpaaCmain
namespace Go.Proofs.Ytmjdamcbdclgpaa
open Go.RowKit
set_option linter.unusedVariables false
set_option linter.unusedSimpArgs false
set_option maxRecDepth 100000

/-- What kinds hands back: where its rows lie. -/
structure KindsLie (c : Cfg) (w W : World) (nl nc nr np : Nat) : Prop where
  below : Below w.heap.size w W
  lt : np < W.heap.size
  kl : Reads W W.heap.size (some ⟨nl, 0, none⟩) (fnsL c)
  kc : Reads W W.heap.size (some ⟨nc, 0, none⟩) (fnsC c)
  kr : Reads W W.heap.size (some ⟨nr, 0, none⟩) (fnsR c)
  p0 : W.cell? ⟨np, 0, none⟩ = some (.int .i64 c.ls.length)
  p1 : W.cell? ⟨np, 1, none⟩ = some (.slice (some ⟨nl, 0, none⟩) 2 2)
  p2 : W.cell? ⟨np, 2, none⟩ = some (.int .i64 c.cs.length)
  p3 : W.cell? ⟨np, 3, none⟩ = some (.slice (some ⟨nc, 0, none⟩) 5 5)
  p4 : W.cell? ⟨np, 4, none⟩ = some (.int .i64 c.rs.length)
  p5 : W.cell? ⟨np, 5, none⟩ = some (.slice (some ⟨nr, 0, none⟩) 5 5)
def KindsTell (c : Cfg) (w : World) (e : Ending) (w' : World) : Prop := ∃ nl nc nr np, e = .returned (.slice (some ⟨np, 0, none⟩) 3 3) ∧ KindsLie c w w' nl nc nr np
theorem kinds_tell (c : Cfg) (w : World) : Calls Try.prog 34 #[c.val] w (KindsTell c w) :=
  (kinds_is c w).mono fun e w' ⟨he, hw⟩ => by
    subst hw
    have k := kindsW_are c w
    exact ⟨_, _, _, _, he, k.below, by rw [k.size]; omega, k.kl, k.kc, k.kr, k.p0, k.p1, k.p2, k.p3, k.p4, k.p5⟩

/-- How far the three kinds have been asked. -/
def Far (L C R : Int × Int) (g : Nat) (i : Value) : Prop :=
  (g = 3 ∧ i = .int .i64 0) ∨ (g = 2 ∧ i = .int .i64 1 ∧ L.1 = 0) ∨ (g = 1 ∧ i = .int .i64 2 ∧ L.1 = 0 ∧ C.1 = 0) ∨ (g = 0 ∧ i = .int .i64 3 ∧ L.1 = 0 ∧ C.1 = 0 ∧ R.1 = 0)

theorem zero_pair {p : Int × Int} (h : p.1 = 0) (hz : p.1 = 0 → p = (0, 0)) : p = (0, 0) := hz h

set_option maxHeartbeats 1000000 in
theorem check_fits (c : Cfg) (w : World) (h : CfgIn w w.heap.size c) (hf : fitsB c.ls c.rs c.cs = true) :
    Calls Try.prog 21 #[c.val] w (Tells2 w (thenI (kindI3 (asksL c.ls) c.ls.length) (thenI (kindI3 (asksC c.cs) c.cs.length) (kindI3 (asksR c.ls c.rs c.cs) c.rs.length)))) := by
  have HF1 := Lib.hid (fun W h q hr => firstL_is c W h q hr)
  have HF2 := Lib.hid (fun W h q hr => firstC_is c W h q hr)
  have HF3 := Lib.hid (fun W h q hr => firstR_is c W h q hr)
  have HK := fun W => kinds_tell c W
  have HRz : (kindI3 (asksR c.ls c.rs c.cs) c.rs.length).1 = 0 → kindI3 (asksR c.ls c.rs c.cs) c.rs.length = (0, 0) := kind_zero
  generalize kindI3 (asksL c.ls) c.ls.length = L at *
  generalize kindI3 (asksC c.cs) c.cs.length = C at *
  generalize kindI3 (asksR c.ls c.rs c.cs) c.rs.length = R at *
  have HRZ := Lib.hid HRz
  clear HRz
  have HIN := Lib.hid h
  clear h
  have B := boxed w (.cells #[.slice c.la c.ls.length c.lc, .slice c.ra c.rs.length c.rc, .slice c.ca c.cs.length c.cc] 26)
  have h1 := within_is (c.ls.length : Int) 4
  have h2 := within_is (c.rs.length : Int) 8
  have h3 := within_is (c.cs.length : Int) 4
  unfold fitsB at hf
  simp only [Bool.and_eq_true] at hf
  rw [hf.1.1] at h1
  rw [hf.1.2] at h2
  rw [hf.2] at h3
  clear hf
  unfold Cfg.val at HK ⊢
  go_enter Try.func21, Try.ntmps21
  go_wp2_with (first | (go_at_call 33; first | ((with_reducible refine (h1 _).mono ?_); rintro e wx ⟨rfl, rfl⟩) | ((with_reducible refine (h2 _).mono ?_); rintro e wx ⟨rfl, rfl⟩) | ((with_reducible refine (h3 _).mono ?_); rintro e wx ⟨rfl, rfl⟩)) | (go_at_call 34; ((with_reducible refine (HK _).mono ?_); rintro e W ⟨nl, nc, nr, np, rfl, KL⟩)))
  clear HK h1 h2 h3
  have BW := below_next B KL.below
  have CI := (HIN.out.below BW).more BW.size
  have HKL := Lib.hid KL
  clear KL B HIN
  have HCI := Lib.hid CI
  clear CI
  go_loopg [30] 3 (fun g i wr => Far L C R g i ∧ Below W.heap.size W wr)
  case atStart => exact ⟨Or.inl ⟨rfl, rfl⟩, Below.refl _ _⟩
  case round =>
    obtain ⟨hfar, B⟩ := hrel
    rcases hfar with ⟨rfl, rfl⟩ | ⟨rfl, rfl, hL⟩ | ⟨rfl, rfl, hL, hC⟩ | ⟨rfl, rfl, hL, hC, hR⟩
    · have g0 := (B.cell (p := ⟨np, 0, none⟩) HKL.out.lt).trans HKL.out.p0
      have g1 := (B.cell (p := ⟨np, 1, none⟩) HKL.out.lt).trans HKL.out.p1
      have B1 : Below W.heap.size W (wr.alloc (.cells #[.int .i64 c.ls.length, .slice (some ⟨nl, 0, none⟩) 2 2] 68)) := B.alloc B.size _
      have hc := HF1.out _ (HCI.out.next B1) _ (HKL.out.kl.next B1)
      by_cases hz : L.1 = 0
      · have hb : (L.1 != 0) = false := by simpa using hz
        have HZ := Lib.hid hz
        clear hz
        go_wp2_with (first | (go_at_call 35; ((with_reducible refine hc.mono ?_); rintro e wx ⟨rfl, kk⟩; replace B := B1.trans (kk.mono B1.size); clear kk)))
        go_roundg 2
        case measure => omega
        case rel => exact ⟨Or.inr (Or.inl ⟨rfl, rfl, HZ.out⟩), B⟩
      · have hb : (L.1 != 0) = true := by simpa using hz
        have HX : Hid (thenI L (thenI C R) = L) := Lib.hid (by simp [thenI, show (L.1 == 0) = false by simpa using hz])
        clear hz
        go_wp2_with (first | (go_at_call 35; ((with_reducible refine hc.mono ?_); rintro e wx ⟨rfl, kk⟩; replace B := B1.trans (kk.mono B1.size); clear kk)))
        go_ret2
        rw [HX.out]
        exact ⟨rfl, BW.trans (B.mono BW.size)⟩
    · have g0 := (B.cell (p := ⟨np, 2, none⟩) HKL.out.lt).trans HKL.out.p2
      have g1 := (B.cell (p := ⟨np, 3, none⟩) HKL.out.lt).trans HKL.out.p3
      have B1 : Below W.heap.size W (wr.alloc (.cells #[.int .i64 c.cs.length, .slice (some ⟨nc, 0, none⟩) 5 5] 68)) := B.alloc B.size _
      have hc := HF2.out _ (HCI.out.next B1) _ (HKL.out.kc.next B1)
      have HL := Lib.hid hL
      clear hL
      by_cases hz : C.1 = 0
      · have hb : (C.1 != 0) = false := by simpa using hz
        have HZ := Lib.hid hz
        clear hz
        go_wp2_with (first | (go_at_call 35; ((with_reducible refine hc.mono ?_); rintro e wx ⟨rfl, kk⟩; replace B := B1.trans (kk.mono B1.size); clear kk)))
        go_roundg 1
        case measure => omega
        case rel => exact ⟨Or.inr (Or.inr (Or.inl ⟨rfl, rfl, HL.out, HZ.out⟩)), B⟩
      · have hb : (C.1 != 0) = true := by simpa using hz
        have HX : Hid (thenI L (thenI C R) = C) := Lib.hid (by simp [thenI, HL.out, show (C.1 == 0) = false by simpa using hz])
        clear hz
        go_wp2_with (first | (go_at_call 35; ((with_reducible refine hc.mono ?_); rintro e wx ⟨rfl, kk⟩; replace B := B1.trans (kk.mono B1.size); clear kk)))
        go_ret2
        rw [HX.out]
        exact ⟨rfl, BW.trans (B.mono BW.size)⟩
    · have g0 := (B.cell (p := ⟨np, 4, none⟩) HKL.out.lt).trans HKL.out.p4
      have g1 := (B.cell (p := ⟨np, 5, none⟩) HKL.out.lt).trans HKL.out.p5
      have B1 : Below W.heap.size W (wr.alloc (.cells #[.int .i64 c.rs.length, .slice (some ⟨nr, 0, none⟩) 5 5] 68)) := B.alloc B.size _
      have hc := HF3.out _ (HCI.out.next B1) _ (HKL.out.kr.next B1)
      have HL := Lib.hid hL
      have HC := Lib.hid hC
      clear hL hC
      by_cases hz : R.1 = 0
      · have hb : (R.1 != 0) = false := by simpa using hz
        have HZ := Lib.hid hz
        clear hz
        go_wp2_with (first | (go_at_call 35; ((with_reducible refine hc.mono ?_); rintro e wx ⟨rfl, kk⟩; replace B := B1.trans (kk.mono B1.size); clear kk)))
        go_roundg 0
        case measure => omega
        case rel => exact ⟨Or.inr (Or.inr (Or.inr ⟨rfl, rfl, HL.out, HC.out, HZ.out⟩)), B⟩
      · have hb : (R.1 != 0) = true := by simpa using hz
        have HX : Hid (thenI L (thenI C R) = R) := Lib.hid (by simp [thenI, HL.out, HC.out, show (R.1 == 0) = false by simpa using hz])
        clear hz
        go_wp2_with (first | (go_at_call 35; ((with_reducible refine hc.mono ?_); rintro e wx ⟨rfl, kk⟩; replace B := B1.trans (kk.mono B1.size); clear kk)))
        go_ret2
        rw [HX.out]
        exact ⟨rfl, BW.trans (B.mono BW.size)⟩
    · have HX : Hid (thenI L (thenI C R) = (0, 0)) := Lib.hid (by simp [thenI, hL, hC, HRZ.out hR])
      clear hL hC hR
      go_wp2_with fail
      go_ret2
      rw [HX.out]
      exact ⟨rfl, BW.trans (B.mono BW.size)⟩

/-- config.Check, whatever the configuration is. -/
theorem check_is (c : Cfg) (w : World) (h : CfgIn w w.heap.size c) : Calls Try.prog 21 #[c.val] w (Tells2 w (checkI c.ls c.rs c.cs)) := by
  unfold checkI
  rcases hf : fitsB c.ls c.rs c.cs with _ | _
  · exact check_small c w hf
  · exact check_fits c w h hf
end Go.Proofs.Ytmjdamcbdclgpaa
