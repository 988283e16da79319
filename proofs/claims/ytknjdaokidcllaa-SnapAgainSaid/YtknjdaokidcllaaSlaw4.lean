/- The walk of SnapAgain, over what the program's four calls say. -/
import Derived.Test.YtknjdaokidcllaaM5
namespace Go.Proofs.Ytknjdaokidcllaa
open Go.RowKit
set_option linter.unusedVariables false
set_option linter.unusedSimpArgs false
set_option maxRecDepth 100000

theorem bigS_no {s : Sn} (h : bigS s = false) : Few s ∧ ∀ r ∈ s.rs, r.path.size ≤ 2000 := by
  unfold bigS bigRl bigB big3 at h
  simp only [Bool.or_eq_false_iff, decide_eq_false_iff_not] at h
  obtain ⟨⟨h1, h2⟩, ⟨⟨⟨h3, _⟩, h4⟩, h5⟩, _⟩ := h
  refine ⟨⟨by omega, by omega, by omega, fun x hx => ?_⟩, fun r hr => ?_⟩
  · have := List.any_eq_false.1 h5 x hx
    unfold bigC at this
    simp only [Bool.or_eq_true, decide_eq_true_eq, not_or] at this
    omega
  · rw [List.any_eq_false] at h2
    have := (wide_no (by simpa using h2 r hr)).2
    omega
theorem is_good {s : Sn} (h : isI s = true) : Good s.ls (routesI s.ls s.rs s.cs) s.cs := good_iff.1 (by unfold isI at h; simpa using h)
theorem foundI_cases {l : List Rl} {n : Int} (f : Rl → Bool) (h : ∀ r ∈ l, 0 ≤ r.cluster ∧ r.cluster < n) : foundI l f = (0, 5) ∨ ((foundI l f).2 = 0 ∧ 0 ≤ (foundI l f).1 ∧ (foundI l f).1 < n) := by
  unfold foundI
  cases bestO l f with
  | none => exact .inl rfl
  | some x => exact .inr ⟨rfl, h _ (List.getElem_mem _)⟩
theorem found_cases {s : Sn} (h : isI s = true) (li ho pa : ByteArray) : findS s li ho pa = (0, 3) ∨ findS s li ho pa = (0, 5) ∨ ((findS s li ho pa).2 = 0 ∧ 0 ≤ (findS s li ho pa).1 ∧ (findS s li ho pa).1 < s.cs.length) := by
  unfold findS
  cases decide (numL s.ls li < 0) with
  | true => exact .inl rfl
  | false => exact .inr (foundI_cases _ (rules_routes (is_good h)).2)
theorem again_same {s t : Sn} {hs : List (List Bool)} (h : isI s = true) (e1 : t.ls = s.ls) (e2 : Alike t.cs s.cs) (e3 : t.rs = rulesI s.ls (routesI s.ls s.rs s.cs) s.cs) : sameSn s hs t hs = true := by
  unfold sameSn
  rw [e1, e2.chs, e3, (rules_routes (is_good h)).1, (sameL_eq (fun a b => eqB_iff)).2 rfl, (sameL_eq sameCh_iff).2 rfl, (sameL_eq sameRl_iff).2 rfl]
  rfl

set_option maxHeartbeats 8000000 in
theorem snapAgain_walk (K : Words) (s : Sn) (hs : List (List Bool)) (li ho pa : ByteArray) (w : World) (h : SnIn w w.heap.size s) (hh : HealthIn w w.heap.size s.cs hs) (l1 : li.size ≤ maxLen) (l2 : ho.size ≤ maxLen) (l3 : pa.size ≤ maxLen) :
    Calls Try.prog 5 #[s.val, .string li, .string ho, .string pa] w fun e w' => e = .returned (.bool true) ∧ Below w.heap.size w w' := by
  have HK := Lib.hid K
  clear K l1 l2 l3
  obtain ⟨W0, hW0⟩ : ∃ W0, w.alloc (.cells #[.slice s.la s.ls.length s.lc, .slice s.ra s.rs.length s.rc, .slice s.ca s.cs.length s.cc] 30) = W0 := ⟨_, rfl⟩
  have B0 : Below w.heap.size w W0 := by rw [← hW0]; exact boxed _ _
  have hbx : W0.heap[w.heap.size]? = some (.cells #[.slice s.la s.ls.length s.lc, .slice s.ra s.rs.length s.rc, .slice s.ca s.cs.length s.cc] 30 (0, 0)) := by rw [← hW0]; exact one_alloc _ _
  have h0 := h.next B0
  have hb := big7_is s W0 h0
  obtain ⟨b, hbb⟩ : ∃ b, bigS s = b := ⟨_, rfl⟩
  rw [hbb] at hb
  obtain ⟨f0, f1, f2⟩ := box_three hbx (Below.refl _ _)
  have HBB := Lib.hid hbb
  have HB := Lib.hid hbx
  have HH := Lib.hid ((hh.below B0).more B0.size)
  have HI := Lib.hid h0
  have BB := Lib.hid B0
  obtain ⟨b1, hb1⟩ : ∃ b, decide (100 < (ho.size : Int)) = b := ⟨_, rfl⟩
  obtain ⟨b2, hb2⟩ : ∃ b, decide (100 < (pa.size : Int)) = b := ⟨_, rfl⟩
  have H1 := Lib.hid hb1
  clear hbb hbx h0 hh h B0
  unfold Sn.val at *
  go_enter Try.func5, Try.ntmps5
  go_wp2_with fail
  refine hb.mono ?_
  rintro e W1 ⟨rfl, k1⟩
  obtain ⟨f0', f1', f2'⟩ := box_three HB.out k1
  clear f0 f1 f2 hb hW0
  cases b with
  | true =>
    go_wp2_with fail
    refine (built_is HK.out _).mono ?_
    rintro e Wb ⟨rfl, kb⟩
    have B9 := below_next BB.out (k1.trans (kb.mono k1.size))
    clear kb
    go_wp2_with fail
    go_ret
    exact ⟨rfl, B9⟩
  | false =>
  cases b1 with
  | true =>
    go_wp2_with fail
    refine (built_is HK.out _).mono ?_
    rintro e Wb ⟨rfl, kb⟩
    have B9 := below_next BB.out (k1.trans (kb.mono k1.size))
    clear kb
    go_wp2_with fail
    go_ret
    exact ⟨rfl, B9⟩
  | false =>
  cases b2 with
  | true =>
    go_wp2_with fail
    refine (built_is HK.out _).mono ?_
    rintro e Wb ⟨rfl, kb⟩
    have B9 := below_next BB.out (k1.trans (kb.mono k1.size))
    clear kb
    go_wp2_with fail
    go_ret
    exact ⟨rfl, B9⟩
  | false =>
  obtain ⟨n1, n2⟩ := bigS_no HBB.out
  have N2 := Lib.hid n2
  have N1 := Lib.hid n1
  have hq := HK.out.is s hs W1 (HI.out.next k1) ((HH.out.below k1).more k1.size) n1
  obtain ⟨i, hi⟩ : ∃ i, isI s = i := ⟨_, rfl⟩
  rw [hi] at hq
  have II := Lib.hid hi
  clear n1 n2 hi
  unfold Sn.val at hq
  go_wp2_with fail
  refine hq.mono ?_
  rintro e W2 ⟨rfl, kk⟩
  have k2 := k1.trans (kk.mono k1.size)
  clear f0' f1' f2' hq kk k1
  obtain ⟨f0, f1, f2⟩ := box_three HB.out k2
  cases i with
  | false =>
    go_wp2_with fail
    refine (built_is HK.out _).mono ?_
    rintro e Wb ⟨rfl, kb⟩
    have B9 := below_next BB.out (k2.trans (kb.mono k2.size))
    clear kb
    go_wp2_with fail
    go_ret
    exact ⟨rfl, B9⟩
  | true =>
  have hq := HK.out.conf s hs W2 (HI.out.next k2) ((HH.out.below k2).more k2.size) N1.out
  unfold Sn.val at hq
  go_wp2_with fail
  refine hq.mono ?_
  rintro e W3 ⟨c, rfl, hc, hch, e1, e2, e3, kk⟩
  have k3 := k2.trans (kk.mono k2.size)
  clear f0 f1 f2 hq kk k2
  have hq := HK.out.build c hs W3 hc hch
  have E := Lib.hid (And.intro e1 (And.intro e2 e3))
  clear hc hch e1 e2 e3
  unfold Cfg.val at *
  go_wp2_with fail
  refine hq.mono ?_
  rintro e W4 (⟨hok, t, rfl, hT, u1, u2, u3, kk⟩ | ⟨hno, _, _⟩)
  all_goals obtain ⟨e1, e2, e3⟩ := E.out
  rotate_left
  · exfalso
    exact hno (good_iff.2 (by rw [e1, e3]; exact e2.good (is_good II.out)))
  have k4 := k3.trans (kk.mono k3.size)
  clear hq kk k3 hok
  rw [e1] at u1
  replace u2 := u2.trans e2
  rw [e2.rules, e1, e3] at u3
  have SA := Lib.hid (again_same (hs := hs) II.out u1 u2 u3)
  clear u1 u2 u3 e1 e2 e3
  unfold Sn.val
  have kX : Below W0.heap.size W0 (W4.alloc (.cells #[.slice t.la t.ls.length t.lc, .slice t.ra t.rs.length t.rc, .slice t.ca t.cs.length t.cc] 30)) := below_alloc k4 (Nat.le_refl _)
  have HBS := Lib.hid (fun W' => agg_three (W := W4) (W' := W') (x := .slice t.la t.ls.length t.lc) (y := .slice t.ra t.rs.length t.rc) (z := .slice t.ca t.cs.length t.cc) (t := 30))
  have kS := boxed W4 (.cells #[.slice t.la t.ls.length t.lc, .slice t.ra t.rs.length t.rc, .slice t.ca t.cs.length t.cc] 30)
  have HTH := Lib.hid ((hT.h.below kS).more kS.size)
  have HT := Lib.hid (hT.i.next (boxed W4 (.cells #[.slice t.la t.ls.length t.lc, .slice t.ra t.rs.length t.rc, .slice t.ca t.cs.length t.cc] 30)))
  have hq := HK.out.find s _ li ho pa (HI.out.next kX) (by have := of_decide_eq_false H1.out; omega) N2.out
  obtain ⟨f0, f1, f2⟩ := box_three HB.out kX
  have HKX := Lib.hid kX
  have FC := Lib.hid (found_cases II.out li ho pa)
  clear kX kS hT k4
  unfold Sn.val at hq
  generalize findS s li ho pa = q at *
  obtain ⟨qa, qe⟩ := q
  go_wp2_with fail
  generalize W4.alloc (.cells #[.slice t.la t.ls.length t.lc, .slice t.ra t.rs.length t.rc, .slice t.ca t.cs.length t.cc] 30) = X1 at *
  refine hq.mono ?_
  rintro e W5 ⟨rfl, k5⟩
  clear f0 f1 f2 hq
  go_wp2_with fail
  refine (built_is HK.out W5).mono ?_
  rintro e W6 ⟨rfl, kk⟩
  have k6 := k5.trans (kk.mono k5.size)
  clear kk k5
  have kA := HKX.out.trans (k6.mono HKX.out.size)
  obtain ⟨f0, f1, f2⟩ := box_three HB.out kA
  obtain ⟨g0, g1, g2⟩ := HBS.out W6 k6
  have hq := same_is s t hs hs W6 (HI.out.next kA) (HT.out.next k6) ((HH.out.below kA).more kA.size) ((HTH.out.below k6).more k6.size)
  rw [SA.out] at hq
  unfold Sn.val at hq
  have KA := Lib.hid kA
  clear kA k6
  go_wp2_with fail
  refine hq.mono ?_
  rintro e W7 ⟨rfl, kk⟩
  have B9 := below_next BB.out (KA.out.trans (kk.mono KA.out.size))
  have kA := KA.out.trans (kk.mono KA.out.size)
  obtain ⟨h0, h1, h2⟩ := box_three HB.out kA
  clear f0 f1 f2 g0 g1 g2 hq kk kA
  rcases FC.out with e | e | ⟨r1, r2, r3⟩
  · cases e
    go_wp2_with fail
    go_ret
    exact ⟨rfl, B9⟩
  · cases e
    go_wp2_with fail
    go_ret
    exact ⟨rfl, B9⟩
  · obtain rfl : qe = 0 := r1
    have r4 : decide (0 ≤ qa) = true := decide_eq_true r2
    have r5 : decide (qa < (s.cs.length : Int)) = true := decide_eq_true r3
    clear r2 r3
    go_wp2_with fail
    go_ret
    exact ⟨rfl, B9⟩
end Go.Proofs.Ytknjdaokidcllaa
