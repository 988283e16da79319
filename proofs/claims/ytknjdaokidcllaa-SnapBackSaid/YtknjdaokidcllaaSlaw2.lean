/- The walk of SnapBack, over what the program's four calls say. -/
import Derived.Test.YtknjdaokidcllaaSlaw1
import Derived.Test.YtknjdaokidcllaaCmain2
import Derived.Test.YtknjdaokidcllaaSmake
import Derived.Deep.RegionHeld3
namespace Go.Proofs.Ytknjdaokidcllaa
open Go.RowKit
set_option linter.unusedVariables false
set_option linter.unusedSimpArgs false
set_option maxRecDepth 100000

theorem cfg_self (c d : Cfg) (hs : List (List Bool)) (h1 : c.ls = d.ls) (h2 : Alike c.cs d.cs) (h3 : c.rs = d.rs) : sameCfg c hs d hs = true := by
  unfold sameCfg
  rw [h1, h2.chs, h3, (sameL_eq (fun a b => eqB_iff)).2 rfl, (sameL_eq sameCh_iff).2 rfl, (sameL_eq sameRt_iff).2 rfl]
  rfl

set_option maxHeartbeats 8000000 in
theorem snapBack_walk (K : Words) (c : Cfg) (hs : List (List Bool)) (w : World) (h : CfgIn w w.heap.size c) (hh : HealthIn w w.heap.size c.cs hs) :
    Calls Try.prog 4 #[c.val] w fun e w' => e = .returned (.bool true) ∧ Below w.heap.size w w' := by
  have HK := Lib.hid K
  clear K
  obtain ⟨W0, hW0⟩ : ∃ W0, w.alloc (.cells #[.slice c.la c.ls.length c.lc, .slice c.ra c.rs.length c.rc, .slice c.ca c.cs.length c.cc] 26) = W0 := ⟨_, rfl⟩
  have B0 : Below w.heap.size w W0 := by rw [← hW0]; exact boxed _ _
  have hbx : W0.heap[w.heap.size]? = some (.cells #[.slice c.la c.ls.length c.lc, .slice c.ra c.rs.length c.rc, .slice c.ca c.cs.length c.cc] 26 (0, 0)) := by rw [← hW0]; exact one_alloc _ _
  have h0 := (h.below B0).more B0.size
  have hb := big_is c W0 h0
  obtain ⟨b, hbb⟩ : ∃ b, bigB c.ls c.rs c.cs = b := ⟨_, rfl⟩
  rw [hbb] at hb
  obtain ⟨f0, f1, f2⟩ := box_three hbx (Below.refl _ _)
  have HBB := Lib.hid hbb
  have HB := Lib.hid hbx
  have HH := Lib.hid ((hh.below B0).more B0.size)
  have HI := Lib.hid h0
  have BB := Lib.hid B0
  clear hbb hbx h0 hh h B0
  unfold Cfg.val at *
  go_enter Try.func4, Try.ntmps4
  go_wp2_with fail
  refine hb.mono ?_
  rintro e W1 ⟨rfl, k1⟩
  obtain ⟨f0', f1', f2'⟩ := box_three HB.out k1
  clear f0 f1 f2 hb hW0
  cases b with
  | true =>
    go_wp2_with fail
    go_ret
    exact ⟨rfl, below_next BB.out k1⟩
  | false =>
  obtain ⟨_, n2, _, n4⟩ := big_no HBB.out
  have N4 := Lib.hid n4
  clear n4
  have hq := HK.out.build c hs W1 ((HI.out.below k1).more k1.size) ((HH.out.below k1).more k1.size)
  unfold Cfg.val at hq
  go_wp2_with fail
  refine hq.mono ?_
  rintro e W2 (⟨hok, s, rfl, hN, e1, e2, e3, k2⟩ | ⟨hno, rfl, k2⟩)
  · have K2 := Lib.hid (k1.trans (k2.mono k1.size))
    clear k2 f0' f1' f2' hq
    unfold Sn.val
    have kX : Below W0.heap.size W0 (W2.alloc (.cells #[.slice s.la s.ls.length s.lc, .slice s.ra s.rs.length s.rc, .slice s.ca s.cs.length s.cc] 30)) := below_alloc K2.out (Nat.le_refl _)
    have BS := fun W' => agg_three (W := W2) (W' := W') (x := .slice s.la s.ls.length s.lc) (y := .slice s.ra s.rs.length s.rc) (z := .slice s.ca s.cs.length s.cc) (t := 30)
    have kS := boxed W2 (.cells #[.slice s.la s.ls.length s.lc, .slice s.ra s.rs.length s.rc, .slice s.ca s.cs.length s.cc] 30)
    have HSH := Lib.hid ((hN.h.below kS).more kS.size)
    have SX := hN.i.next (boxed W2 (.cells #[.slice s.la s.ls.length s.lc, .slice s.ra s.rs.length s.rc, .slice s.ca s.cs.length s.cc] 30))
    have hq := check_is c _ ((HI.out.below kX).more kX.size)
    obtain ⟨f0, f1, f2⟩ := box_three HB.out kX
    have hz := check_zero hok
    rw [hz] at hq
    have G := Lib.hid (good_iff.1 hok)
    have E := Lib.hid (And.intro e1 (And.intro e2 (e3.trans rfl)))
    have HSX := Lib.hid SX
    have HBS := Lib.hid BS
    have HKX := Lib.hid kX
    clear e1 e2 e3 SX BS kX kS hN hok hz
    unfold Cfg.val at hq
    go_wp2_with fail
    generalize W2.alloc (.cells #[.slice s.la s.ls.length s.lc, .slice s.ra s.rs.length s.rc, .slice s.ca s.cs.length s.cc] 30) = X1 at *
    refine hq.mono ?_
    rintro e W3 ⟨rfl, k3⟩
    clear hq f0 f1 f2
    have six : ∀ W', Below X1.heap.size X1 W' → (W'.cell? ⟨W2.heap.size, 0, none⟩ = some (.slice s.la s.ls.length s.lc) ∧ W'.cell? ⟨W2.heap.size, 1, none⟩ = some (.slice s.ra s.rs.length s.rc) ∧ W'.cell? ⟨W2.heap.size, 2, none⟩ = some (.slice s.ca s.cs.length s.cc)) ∧
        W'.cell? ⟨w.heap.size, 0, none⟩ = some (.slice c.la c.ls.length c.lc) ∧ W'.cell? ⟨w.heap.size, 1, none⟩ = some (.slice c.ra c.rs.length c.rc) ∧ W'.cell? ⟨w.heap.size, 2, none⟩ = some (.slice c.ca c.cs.length c.cc) :=
      fun W' hW => ⟨HBS.out W' hW, box_three HB.out (HKX.out.trans (hW.mono HKX.out.size))⟩
    have rs : routesI s.ls s.rs s.cs = c.rs := by rw [E.out.1, E.out.2.1.routes, E.out.2.2]; exact routes_rules G.out
    have hI : isI s = true := by rw [isI, rs, E.out.1, E.out.2.1.ok, good_iff.2 G.out]; rfl
    have h8 : Few s := by
      obtain ⟨q1, q2, q3, q4⟩ := G.out.few
      exact ⟨by rw [E.out.1]; exact q1, by rw [E.out.2.2]; simpa [rulesI] using q2, by rw [E.out.2.1.len]; exact q3, E.out.2.1.all (p := fun x => x.hn ≤ 50) (fun x => Iff.rfl) q4⟩
    have hIs := fun W' (hW : Below X1.heap.size X1 W') => HK.out.is s hs W' (HSX.out.next hW) ((HSH.out.below hW).more hW.size) h8
    have hCo := fun W' (hW : Below X1.heap.size X1 W') => HK.out.conf s hs W' (HSX.out.next hW) ((HSH.out.below hW).more hW.size) h8
    rw [hI] at hIs
    unfold Sn.val at hIs hCo
    have HIs := Lib.hid hIs
    have HCo := Lib.hid hCo
    have RS := Lib.hid rs
    have SIX := Lib.hid six
    clear hIs hCo six hI h8 rs
    have k3' := below_drew k3
    go_wp2_with fail
    have kB := below_drew k3
    have cK := SIX.out _ kB
    clear k3 k3'
    go_region_held3 (fun wk => (wk.cell? ⟨W2.heap.size, 0, none⟩ = some (.slice s.la s.ls.length s.lc) ∧ wk.cell? ⟨W2.heap.size, 1, none⟩ = some (.slice s.ra s.rs.length s.rc) ∧ wk.cell? ⟨W2.heap.size, 2, none⟩ = some (.slice s.ca s.cs.length s.cc)) ∧
        wk.cell? ⟨w.heap.size, 0, none⟩ = some (.slice c.la c.ls.length c.lc) ∧ wk.cell? ⟨w.heap.size, 1, none⟩ = some (.slice c.ra c.rs.length c.rc) ∧ wk.cell? ⟨w.heap.size, 2, none⟩ = some (.slice c.ca c.cs.length c.cc)) (exact cK)
      (first
        | (go_at_call 10; ((with_reducible refine (built_is HK.out _).mono ?_); rintro e wx ⟨rfl, kk⟩; replace kB := kB.trans (kk.mono kB.size); clear kk; replace cK := SIX.out _ kB))
        | (go_at_call 13; ((with_reducible refine (HIs.out _ kB).mono ?_); rintro e wx ⟨rfl, kk⟩; replace kB := kB.trans (kk.mono kB.size); clear kk; replace cK := SIX.out _ kB))
        | (go_at_call 15; ((with_reducible refine (HCo.out _ kB).mono ?_); rintro e wx ⟨c', rfl, hc', hch, e1, e2, e3, kk⟩; replace kB := kB.trans (kk.mono kB.size); clear kk; replace cK := SIX.out _ kB; have kC := HKX.out.trans (kB.mono HKX.out.size); have hS := sameConfigs_is c' c hs hs _ hc' ((HI.out.below kC).more kC.size) hch ((HH.out.below kC).more kC.size); rw [cfg_self c' c hs (e1.trans E.out.1) (e2.trans E.out.2.1) (e3.trans RS.out)] at hS; unfold Cfg.val at hS; unfold Cfg.val; clear hc' hch e1 e2 e3 kC))
        | (go_at_call 14; ((with_reducible refine hS.mono ?_); rintro e wx ⟨rfl, kk⟩; replace kB := kB.trans (kk.mono kB.size); clear kk; replace cK := SIX.out _ kB)))
    clear cK
    have B9 := below_next BB.out (HKX.out.trans (kB.mono HKX.out.size))
    go_wp2_with fail
    go_ret
    exact ⟨rfl, B9⟩
  · have K2 := Lib.hid (k1.trans (k2.mono k1.size))
    clear k2 f0' f1' f2' hq
    have eN : Sn.nil.val = .agg #[.slice none 0 0, .slice none 0 0, .slice none 0 0] := rfl
    rw [eN]
    clear eN
    have kX : Below W0.heap.size W0 (W2.alloc (.cells #[.slice none 0 0, .slice none 0 0, .slice none 0 0] 30)) := below_alloc K2.out (Nat.le_refl _)
    have BS := fun W' => agg_three (W := W2) (W' := W') (x := .slice none 0 0) (y := .slice none 0 0) (z := .slice none 0 0) (t := 30)
    have hq := check_is c _ ((HI.out.below kX).more kX.size)
    obtain ⟨f0, f1, f2⟩ := box_three HB.out kX
    have HBS := Lib.hid BS
    have HKX := Lib.hid kX
    clear BS kX
    generalize checkI c.ls c.rs c.cs = q at hq hno
    have hne : (q.1 != 0) = true := by simpa using hno
    clear hno
    unfold Cfg.val at hq
    go_wp2_with fail
    generalize W2.alloc (.cells #[.slice none 0 0, .slice none 0 0, .slice none 0 0] 30) = X1 at *
    refine hq.mono ?_
    rintro e W3 ⟨rfl, k3⟩
    clear hq f0 f1 f2
    go_wp2_with fail
    refine (built_is HK.out W3).mono ?_
    rintro e W4 ⟨rfl, k4⟩
    have k5 := k3.trans (k4.mono k3.size)
    obtain ⟨g0, g1, g2⟩ := HBS.out W4 k5
    have B9 := below_next BB.out (HKX.out.trans (k5.mono HKX.out.size))
    clear k3 k4 k5
    go_wp2_with fail
    go_ret
    exact ⟨rfl, B9⟩
end Go.Proofs.Ytknjdaokidcllaa
