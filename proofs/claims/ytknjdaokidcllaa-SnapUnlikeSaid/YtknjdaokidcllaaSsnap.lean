/- The document's comparison of snapshots. -/
import Derived.Test.YtknjdaokidcllaaM3
namespace Go.Proofs.Ytknjdaokidcllaa
open Go.RowKit
set_option linter.unusedVariables false
set_option linter.unusedSimpArgs false
set_option maxRecDepth 100000

set_option maxHeartbeats 4000000 in
theorem same_is (c d : Sn) (hs gs : List (List Bool)) (w : World) (hc : SnIn w w.heap.size c) (hd : SnIn w w.heap.size d) (hh : HealthIn w w.heap.size c.cs hs) (hg : HealthIn w w.heap.size d.cs gs) :
    Calls Try.prog 11 #[c.val, d.val] w (Says w (sameSn c hs d gs)) := by
  have hm1 : c.rs.length ≤ 9223372036854775807 := Nat.le_trans hc.rl hc.rm
  have hm2 : d.rs.length ≤ 9223372036854775807 := Nat.le_trans hd.rl hd.rm
  have HC := Lib.hid hc
  have HD := Lib.hid hd
  have HH := Lib.hid hh
  have HG := Lib.hid hg
  clear hc hd hh hg
  have TB := Lib.hid (two_boxes w (.slice c.la c.ls.length c.lc) (.slice c.ra c.rs.length c.rc) (.slice c.ca c.cs.length c.cc) (.slice d.la d.ls.length d.lc) (.slice d.ra d.rs.length d.rc) (.slice d.ca d.cs.length d.cc) 30)
  obtain ⟨w2, hw2⟩ : ∃ w2, (w.alloc (.cells #[.slice c.la c.ls.length c.lc, .slice c.ra c.rs.length c.rc, .slice c.ca c.cs.length c.cc] 30)).alloc (.cells #[.slice d.la d.ls.length d.lc, .slice d.ra d.rs.length d.rc, .slice d.ca d.cs.length d.cc] 30) = w2 := ⟨_, rfl⟩
  have B0 : Below w.heap.size w w2 := by rw [← hw2]; exact below_alloc (boxed w _) (Nat.le_refl _)
  rw [hw2] at TB
  have t1 := fun W (hW : Below w.heap.size w W) => sameTexts_is c.la d.la c.lc d.lc w.heap.size w.heap.size c.ls d.ls W (Nat.le_trans HC.out.ll HC.out.lm) (Nat.le_trans HD.out.ll HD.out.lm) (HC.out.pl.below hW) (HD.out.pl.below hW)
  have t2 := fun W (hW : Below w.heap.size w W) => sameClusters_is c.ca d.ca c.cc d.cc w.heap.size w.heap.size c.cs d.cs hs gs W (Nat.le_trans HC.out.cl HC.out.cm) (Nat.le_trans HD.out.cl HD.out.cm) (fun x hx => (HC.out.wf x hx).2.2) (HC.out.pc.below hW) (HD.out.pc.below hW) (HH.out.below hW) (HG.out.below hW)
  obtain ⟨R, hR⟩ : ∃ R, sameSn c hs d gs = R := ⟨_, rfl⟩
  rw [hR]
  have HR := Lib.hid hR
  clear hR
  obtain ⟨b1, h1⟩ : ∃ b, sameL eqB c.ls d.ls = b := ⟨_, rfl⟩
  obtain ⟨b2, h2⟩ : ∃ b, sameL sameCh (chs c.cs hs) (chs d.cs gs) = b := ⟨_, rfl⟩
  rw [h1] at t1
  rw [h2] at t2
  have H1 := Lib.hid h1
  have H2 := Lib.hid h2
  clear h1 h2
  obtain ⟨b3, hb3⟩ : ∃ b, (c.rs.length == d.rs.length) = b := ⟨_, rfl⟩
  have hb3' : ((c.rs.length : Int) != (d.rs.length : Int)) = !b3 := by
    rw [← hb3, bne]
    congr 1
    rw [Bool.eq_iff_iff, beq_iff_eq, beq_iff_eq]
    omega
  have T1 := Lib.hid t1
  have T2 := Lib.hid t2
  have BB := Lib.hid B0
  have h1 := T1.out w2 B0
  obtain ⟨⟨f0, f1, f2⟩, g0, g1, g2⟩ := TB.out w2 (Below.refl _ _)
  clear t1 t2
  unfold Sn.val
  cases b1 with
  | false =>
    go_enter Try.func11, Try.ntmps11
    go_wp2_with fail
    refine h1.mono ?_
    rintro e W ⟨rfl, kk⟩
    clear f0 f1 f2 g0 g1 g2 h1
    go_wp2_with fail
    go_ret
    exact ⟨ret_bool (by rw [← HR.out, sameSn, H1.out]; rfl), below_next B0 kk⟩
  | true =>
  go_enter Try.func11, Try.ntmps11
  go_wp2_with fail
  refine h1.mono ?_
  rintro e W ⟨rfl, kk⟩
  have h2 := T2.out W (below_next B0 kk)
  clear f0 f1 f2 g0 g1 g2 h1
  obtain ⟨⟨f0, f1, f2⟩, g0, g1, g2⟩ := TB.out W kk
  clear hw2
  go_wp2_with fail
  refine h2.mono ?_
  rintro e W3 ⟨rfl, kk3⟩
  have k3 := kk.trans (kk3.mono kk.size)
  clear f0 f1 f2 g0 g1 g2 h2 kk kk3 T1 T2
  obtain ⟨⟨f0, f1, f2⟩, g0, g1, g2⟩ := TB.out W3 k3
  cases b2 with
  | false =>
    go_wp2_with fail
    go_ret
    exact ⟨ret_bool (by rw [← HR.out, sameSn, H1.out, H2.out]; rfl), below_next B0 k3⟩
  | true =>
  cases b3 with
  | false =>
    simp only [Bool.not_false] at hb3'
    have HF : Hid (sameL sameRl c.rs d.rs = false) := Lib.hid (sameL_len (by simpa using hb3))
    go_wp2_with fail
    go_ret
    exact ⟨ret_bool (by rw [← HR.out, sameSn, H1.out, H2.out, HF.out]; rfl), below_next B0 k3⟩
  | true =>
    simp only [Bool.not_true] at hb3'
    have hxy : c.rs.length = d.rs.length := by simpa using hb3
    have HXY := Lib.hid hxy
    clear hxy
    go_wp2_with fail
    clear hb3 hb3'
    have F3 := Lib.hid (⟨⟨f0, f1, f2⟩, g0, g1, g2⟩ : (_ ∧ _ ∧ _) ∧ _ ∧ _ ∧ _)
    clear f0 f2 g0 g2
    go_loopw [5] (fun i wr => ∃ k : Nat, k ≤ c.rs.length ∧ i = .int .i64 k ∧ (∀ j (h : j < c.rs.length) (h' : j < d.rs.length), j < k → sameRl c.rs[j] d.rs[j] = true) ∧ ∃ n, wr = W3.drewN n) (fun i _ => c.rs.length - (intOf i).toNat)
    case atStart => exact ⟨0, by omega, rfl, fun j _ _ h0 => by omega, 0, rfl⟩
    case round =>
      obtain ⟨k, hk, rfl, hno, n, rfl⟩ := hrel
      have HN := Lib.hid hno
      clear hno
      by_cases hlt : k < c.rs.length
      · have hlt' : k < d.rs.length := by rw [← HXY.out]; exact hlt
        obtain ⟨ad, e⟩ : ∃ ad, c.ra = some ad := by obtain ⟨ad, e, _⟩ := HC.out.pr (by rw [List.length_map]; omega); exact ⟨ad, e⟩
        obtain ⟨ad', e'⟩ : ∃ ad, d.ra = some ad := by obtain ⟨ad, e, _⟩ := HD.out.pr (by rw [List.length_map]; omega); exact ⟨ad, e⟩
        have p1 := HC.out.pr
        have p2 := HD.out.pr
        rw [e] at p1 f1
        rw [e'] at p2 g1
        obtain ⟨x0, x1, x2, x3⟩ := row4_rl (W := W3) p1 hlt (fun q hq => (BB.out.trans (k3.mono BB.out.size)).cell hq)
        obtain ⟨y0, y1, y2, y3⟩ := row4_rl (W := W3) p2 hlt' (fun q hq => (BB.out.trans (k3.mono BB.out.size)).cell hq)
        clear p1 p2 e e'
        rcases rl_cases c.rs[k] d.rs[k] with ⟨hb, q1, q2, q3, q4⟩ | ⟨hb, q⟩
        · have HB := Lib.hid hb
          clear hb
          generalize c.rs[k] = x at x0 x1 x2 x3 q1 q2 q3 q4
          generalize d.rs[k] = y at y0 y1 y2 y3 q1 q2 q3 q4
          go_wp2_with fail
          go_quiet (fail)
          go_wp2_with fail
          go_roundw
          case rel => exact ⟨k + 1, by omega, by go_num, fun j h h' hj => by
            rcases Nat.lt_or_ge j k with e | e
            · exact HN.out j h h' e
            · obtain rfl : j = k := by omega
              exact HB.out, _, rfl⟩
          case measure => simp [intOf]; omega
        · have HF := Lib.hid (sameL_at hlt hlt' hb)
          clear hb
          generalize c.rs[k] = x at x0 x1 x2 x3 q
          generalize d.rs[k] = y at y0 y1 y2 y3 q
          rcases q with q1 | ⟨q1, q2⟩ | ⟨q1, q2, q3⟩ | ⟨q1, q2, q3, q4⟩
          all_goals
            go_wp2_with fail
            go_quiet (fail)
            go_wp2_with fail
            go_ret
            exact ⟨ret_bool (by rw [← HR.out, sameSn, H1.out, H2.out, HF.out]; rfl), below_drewN (below_drewN (below_next B0 k3) _) _⟩
      · have HE := Lib.hid (sameL_all (p := sameRl) HXY.out fun i h h' => HN.out i h h' (by omega))
        go_wp2_with fail
        go_ret
        exact ⟨ret_bool (by rw [← HR.out, sameSn, H1.out, H2.out, HE.out]; rfl), below_drewN (below_next B0 k3) _⟩
end Go.Proofs.Ytknjdaokidcllaa
