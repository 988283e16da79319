/- The walk of SnapBuilds, over what the program's four calls say. -/
import Derived.Test.YtknjdaokidcllaaSbuilt
import Derived.Test.YtknjdaokidcllaaSbuild
import Derived.Test.YtknjdaokidcllaaSsnap
import Derived.Test.YtknjdaokidcllaaCbig
namespace Go.Proofs.Ytknjdaokidcllaa
open Go.RowKit
set_option linter.unusedVariables false
set_option linter.unusedSimpArgs false
set_option maxRecDepth 100000

/-- What is known of a configuration that is not too big. -/
theorem big_no {ls : List ByteArray} {rs : List Rt} {cs : List Cl} (h : bigB ls rs cs = false) : ls.length ≤ 50 ∧ rs.length ≤ 50 ∧ cs.length ≤ 50 ∧ ∀ r ∈ rs, r.host.size ≤ 100 ∧ r.path.size ≤ 100 := by
  unfold bigB big3 at h
  simp only [Bool.or_eq_false_iff, decide_eq_false_iff_not] at h
  obtain ⟨⟨⟨⟨h1, h2⟩, h3⟩, _⟩, h5⟩ := h
  refine ⟨by omega, by omega, by omega, fun r hr => ?_⟩
  have h6 := List.any_eq_false.1 h5 r hr
  unfold bigR at h6
  simp only [Bool.or_eq_true, decide_eq_true_eq, not_or] at h6
  omega
/-- Two boxes of a snapshot each. -/
theorem sn_self (s : Sn) (d : Sn) (hs : List (List Bool)) (h1 : s.ls = d.ls) (h2 : Alike s.cs d.cs) (h3 : s.rs = d.rs) : sameSn s hs d hs = true := by
  unfold sameSn
  rw [h1, h2.chs, h3, (sameL_eq (fun a b => eqB_iff)).2 rfl, (sameL_eq sameCh_iff).2 rfl, (sameL_eq sameRl_iff).2 rfl]
  rfl
theorem agg_three {W W' : World} {x y z : Value} {t : TypeId} (hb : Below (W.alloc (.cells #[x, y, z] t)).heap.size (W.alloc (.cells #[x, y, z] t)) W') :
    W'.cell? ⟨W.heap.size, 0, none⟩ = some x ∧ W'.cell? ⟨W.heap.size, 1, none⟩ = some y ∧ W'.cell? ⟨W.heap.size, 2, none⟩ = some z := box_three (one_alloc W _) hb

set_option maxHeartbeats 8000000 in
theorem snapBuilds_walk (K : Words) (c : Cfg) (hs : List (List Bool)) (w : World) (h : CfgIn w w.heap.size c) (hh : HealthIn w w.heap.size c.cs hs) :
    Calls Try.prog 3 #[c.val] w fun e w' => e = .returned (.bool true) ∧ Below w.heap.size w w' := by
  have HK := Lib.hid K
  clear K
  obtain ⟨W0, hW0⟩ : ∃ W0, w.alloc (.cells #[.slice c.la c.ls.length c.lc, .slice c.ra c.rs.length c.rc, .slice c.ca c.cs.length c.cc] 26) = W0 := ⟨_, rfl⟩
  have B0 : Below w.heap.size w W0 := by rw [← hW0]; exact boxed _ _
  have hbx : W0.heap[w.heap.size]? = some (.cells #[.slice c.la c.ls.length c.lc, .slice c.ra c.rs.length c.rc, .slice c.ca c.cs.length c.cc] 26 (0, 0)) := by rw [← hW0]; exact one_alloc _ _
  have h0 := (h.below B0).more B0.size
  have hb := big_is c W0 h0
  obtain ⟨b, hbb⟩ : ∃ b, bigB c.ls c.rs c.cs = b := ⟨_, rfl⟩
  rw [hbb] at hb
  obtain ⟨f0, f1, f2⟩ := box_three hbx (Below.refl _ _)
  have HBB := Lib.hid hbb
  have HB := Lib.hid hbx
  have HH := Lib.hid ((hh.below B0).more B0.size)
  have HI := Lib.hid h0
  have BB := Lib.hid B0
  clear hbb hbx h0 hh h B0
  unfold Cfg.val at *
  go_enter Try.func3, Try.ntmps3
  go_wp2_with fail
  refine hb.mono ?_
  rintro e W1 ⟨rfl, k1⟩
  obtain ⟨f0', f1', f2'⟩ := box_three HB.out k1
  clear f0 f1 f2 hb hW0
  cases b with
  | true =>
    go_wp2_with fail
    go_ret
    exact ⟨rfl, below_next BB.out k1⟩
  | false =>
  obtain ⟨_, n2, _, n4⟩ := big_no HBB.out
  have N4 := Lib.hid n4
  clear n4
  have hq := HK.out.build c hs W1 ((HI.out.below k1).more k1.size) ((HH.out.below k1).more k1.size)
  unfold Cfg.val at hq
  go_wp2_with fail
  refine hq.mono ?_
  rintro e W2 (⟨hok, s, rfl, hN, e1, e2, e3, k2⟩ | ⟨hno, rfl, k2⟩)
  · have K2 := Lib.hid (k1.trans (k2.mono k1.size))
    clear k2 f0' f1' f2' hq
    unfold Sn.val
    have kX : Below W0.heap.size W0 (W2.alloc (.cells #[.slice s.la s.ls.length s.lc, .slice s.ra s.rs.length s.rc, .slice s.ca s.cs.length s.cc] 30)) := below_alloc K2.out (Nat.le_refl _)
    have BS := fun W' => agg_three (W := W2) (W' := W') (x := .slice s.la s.ls.length s.lc) (y := .slice s.ra s.rs.length s.rc) (z := .slice s.ca s.cs.length s.cc) (t := 30)
    have kS := boxed W2 (.cells #[.slice s.la s.ls.length s.lc, .slice s.ra s.rs.length s.rc, .slice s.ca s.cs.length s.cc] 30)
    have HSH := Lib.hid ((hN.h.below kS).more kS.size)
    have SX := hN.i.next (boxed W2 (.cells #[.slice s.la s.ls.length s.lc, .slice s.ra s.rs.length s.rc, .slice s.ca s.cs.length s.cc] 30))
    have hq := rbuild_is c _ ((HI.out.below kX).more kX.size) (fun r hr => by have := (N4.out r hr).1; omega) n2
    obtain ⟨f0, f1, f2⟩ := box_three HB.out kX
    have E := Lib.hid (And.intro e1 (And.intro e2 e3))
    have HSX := Lib.hid SX
    have HBS := Lib.hid BS
    have HKX := Lib.hid kX
    have OK := Lib.hid hok
    clear e1 e2 e3 SX BS kX kS hN hok
    unfold Cfg.val at hq
    go_wp2_with fail
    generalize W2.alloc (.cells #[.slice s.la s.ls.length s.lc, .slice s.ra s.rs.length s.rc, .slice s.ca s.cs.length s.cc] 30) = X1 at *
    refine hq.mono ?_
    rintro e W3 (⟨_, A, kc, rfl, hr, k3⟩ | ⟨hno, _⟩)
    case inr => exact absurd OK.out hno
    have K3 := Lib.hid (HKX.out.trans (k3.mono HKX.out.size))
    have k4 : Below X1.heap.size X1 (W3.alloc (.cells #[.slice c.la c.ls.length c.lc, .slice A (rulesI c.ls c.rs c.cs).length kc, .slice c.ca c.cs.length c.cc] 30)) := below_alloc k3 (Nat.le_refl _)
    have BS2 := fun W' => agg_three (W := W3) (W' := W') (x := .slice c.la c.ls.length c.lc) (y := .slice A (rulesI c.ls c.rs c.cs).length kc) (z := .slice c.ca c.cs.length c.cc) (t := 30)
    have kR := boxed W3 (.cells #[.slice c.la c.ls.length c.lc, .slice A (rulesI c.ls c.rs c.cs).length kc, .slice c.ca c.cs.length c.cc] 30)
    have hr2 := hr.next kR
    have K4 := Lib.hid k4
    have HBS2 := Lib.hid BS2
    have HR2 := Lib.hid hr2
    clear hq f0 f1 f2 k3 hr kR k4 BS2 hr2
    go_wp2_with fail
    generalize W3.alloc (.cells #[.slice c.la c.ls.length c.lc, .slice A (rulesI c.ls c.rs c.cs).length kc, .slice c.ca c.cs.length c.cc] 30) = X2 at *
    refine (built_is HK.out X2).mono ?_
    rintro e W4 ⟨rfl, k5⟩
    have k6 : Below X1.heap.size X1 W4 := K4.out.trans (k5.mono K4.out.size)
    have k7 : Below W0.heap.size W0 W4 := HKX.out.trans (k6.mono HKX.out.size)
    obtain ⟨g0, g1, g2⟩ := HBS.out W4 k6
    obtain ⟨g0', g1', g2'⟩ := HBS2.out W4 k5
    have hC := (HI.out.below k7).more k7.size
    have hR := HR2.out.next k5
    have hhh := (HH.out.below k7).more k7.size
    have hq := same_is s ⟨c.la, c.lc, c.ls, A, kc, rulesI c.ls c.rs c.cs, c.ca, c.cc, c.cs⟩ hs hs W4 (HSX.out.next k6) ⟨hC.pl, hR.rows, hC.pc, hC.ll, hR.le, hC.cl, hC.lm, hR.lm, hC.cm, hC.wf⟩ ((HSH.out.below k6).more k6.size) hhh
    rw [sn_self s _ hs E.out.1 E.out.2.1 E.out.2.2] at hq
    unfold Sn.val at hq
    simp only at hq
    have K7 := Lib.hid (below_next BB.out k7)
    clear k5 k6 k7 hC hR hhh
    go_wp2_with fail
    refine hq.mono ?_
    rintro e W5 ⟨rfl, k8⟩
    have B5 := below_next K7.out k8
    clear hq k8 g0 g1 g2 g0' g1' g2'
    go_wp2_with fail
    go_ret
    exact ⟨rfl, B5⟩
  · have K2 := Lib.hid (k1.trans (k2.mono k1.size))
    clear k2 f0' f1' f2' hq
    have eN : Sn.nil.val = .agg #[.slice none 0 0, .slice none 0 0, .slice none 0 0] := rfl
    rw [eN]
    clear eN
    have kX : Below W0.heap.size W0 (W2.alloc (.cells #[.slice none 0 0, .slice none 0 0, .slice none 0 0] 30)) := below_alloc K2.out (Nat.le_refl _)
    have BS := fun W' => agg_three (W := W2) (W' := W') (x := .slice none 0 0) (y := .slice none 0 0) (z := .slice none 0 0) (t := 30)
    have hq := rbuild_is c _ ((HI.out.below kX).more kX.size) (fun r hr => by have := (N4.out r hr).1; omega) n2
    obtain ⟨f0, f1, f2⟩ := box_three HB.out kX
    have HBS := Lib.hid BS
    have HKX := Lib.hid kX
    have NO := Lib.hid hno
    clear BS kX hno
    unfold BuildTell at hq
    generalize checkI c.ls c.rs c.cs = q at hq NO
    unfold Cfg.val at hq
    go_wp2_with fail
    generalize W2.alloc (.cells #[.slice none 0 0, .slice none 0 0, .slice none 0 0] 30) = X1 at *
    refine hq.mono ?_
    rintro e W3 (⟨hok, _⟩ | ⟨_, rfl, k3⟩)
    case inl => exact absurd hok NO.out
    have k4 : Below X1.heap.size X1 (W3.alloc (.cells #[.slice none 0 0, .slice none 0 0, .slice none 0 0] 30)) := below_alloc k3 (Nat.le_refl _)
    have BS2 := fun W' => agg_three (W := W3) (W' := W') (x := .slice none 0 0) (y := .slice none 0 0) (z := .slice none 0 0) (t := 30)
    have K4 := Lib.hid k4
    have HBS2 := Lib.hid BS2
    clear hq f0 f1 f2 k3 k4 BS2
    go_wp2_with fail
    generalize W3.alloc (.cells #[.slice none 0 0, .slice none 0 0, .slice none 0 0] 30) = X2 at *
    refine (built_is HK.out X2).mono ?_
    rintro e W4 ⟨rfl, k5⟩
    have k6 : Below X1.heap.size X1 W4 := K4.out.trans (k5.mono K4.out.size)
    have k7 : Below W0.heap.size W0 W4 := HKX.out.trans (k6.mono HKX.out.size)
    obtain ⟨g0, g1, g2⟩ := HBS.out W4 k6
    obtain ⟨g0', g1', g2'⟩ := HBS2.out W4 k5
    have hn : HealthIn W4 W4.heap.size Sn.nil.cs [] := ⟨rfl, fun i hi _ => absurd hi (by simp [Sn.nil])⟩
    have hq : Calls Try.prog 11 #[.agg #[.slice none 0 0, .slice none 0 0, .slice none 0 0], .agg #[.slice none 0 0, .slice none 0 0, .slice none 0 0]] W4 (Says W4 true) :=
      (same_is Sn.nil Sn.nil [] [] W4 nil_in nil_in hn hn).mono fun _ _ t => t.of (sn_self _ _ _ rfl rfl rfl)
    have K7 := Lib.hid (below_next BB.out k7)
    clear k5 k6 k7 hn
    go_wp2_with fail
    refine hq.mono ?_
    rintro e W5 ⟨rfl, k8⟩
    have B5 := below_next K7.out k8
    clear hq k8 g0 g1 g2 g0' g1' g2'
    go_wp2_with fail
    go_ret
    exact ⟨rfl, B5⟩
end Go.Proofs.Ytknjdaokidcllaa
