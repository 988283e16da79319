/- The document's first error of a route. -/
import Derived.Test.YtmjdamcbdclgpaaCrl
namespace Go.Proofs.Ytmjdamcbdclgpaa
open Go.RowKit
set_option linter.unusedVariables false
set_option linter.unusedSimpArgs false
set_option maxRecDepth 100000

section
variable {ls : List ByteArray} {rs : List Rt} {cs : List Cl} {k : Nat} {r : Rt}
theorem errR_listen (hx : rAt rs k = r) (h : hasL ls r.listen = false) : errI (asksR ls rs cs) k = 5 := by simp [errI, asksR, pickI, rListen, unlessI, hx, h]
theorem errR_host (hx : rAt rs k = r) (h : hasL ls r.listen = true) (h2 : patternB r.host = false) : errI (asksR ls rs cs) k = 7 := by simp [errI, asksR, pickI, rListen, rHost, unlessI, hx, h, h2]
theorem errR_path (hx : rAt rs k = r) (h : hasL ls r.listen = true) (h2 : patternB r.host = true) (h3 : pathB r.path = false) : errI (asksR ls rs cs) k = 8 := by simp [errI, asksR, pickI, rListen, rHost, rPath, unlessI, hx, h, h2, h3]
theorem errR_cluster (hx : rAt rs k = r) (h : hasL ls r.listen = true) (h2 : patternB r.host = true) (h3 : pathB r.path = true) (h4 : hasC cs r.cluster = false) : errI (asksR ls rs cs) k = 5 := by
  simp [errI, asksR, pickI, rListen, rHost, rPath, rCluster, unlessI, hx, h, h2, h3, h4]
theorem errR_twice (hx : rAt rs k = r) (h : hasL ls r.listen = true) (h2 : patternB r.host = true) (h3 : pathB r.path = true) (h4 : hasC cs r.cluster = true) (h5 : hasR (rs.take k) r = true) : errI (asksR ls rs cs) k = 4 := by
  simp [errI, asksR, pickI, rListen, rHost, rPath, rCluster, rOnce, unlessI, hx, h, h2, h3, h4, h5]
theorem errR_ok (hx : rAt rs k = r) (h : hasL ls r.listen = true) (h2 : patternB r.host = true) (h3 : pathB r.path = true) (h4 : hasC cs r.cluster = true) (h5 : hasR (rs.take k) r = false) : errI (asksR ls rs cs) k = 0 := by
  simp [errI, asksR, pickI, rListen, rHost, rPath, rCluster, rOnce, unlessI, hx, h, h2, h3, h4, h5]
end
theorem rAt_mem {rs : List Rt} {k : Nat} (h : k < rs.length) : rAt rs k ∈ rs := by rw [rAt_get h]; exact List.getElem_mem h

set_option maxHeartbeats 4000000 in
theorem rroutes_is (c : Cfg) (w : World) (h : CfgIn w w.heap.size c) (hbig : ∀ r ∈ c.rs, r.host.size ≤ 2000) : Calls Try.prog 39 #[c.val] w (Tells2 w (kindI3 (asksR c.ls c.rs c.cs) c.rs.length)) := by
  have hm : c.rs.length ≤ 2 ^ 63 - 1 := Nat.le_trans h.rl h.rm
  have HIN := Lib.hid h
  have HBIG := Lib.hid hbig
  clear h hbig
  have B := boxed w (.cells #[.slice c.la c.ls.length c.lc, .slice c.ra c.rs.length c.rc, .slice c.ca c.cs.length c.cc] 26)
  have g0 := World.cell?_alloc_new w #[.slice c.la c.ls.length c.lc, .slice c.ra c.rs.length c.rc, .slice c.ca c.cs.length c.cc] 26 0
  have g1 := World.cell?_alloc_new w #[.slice c.la c.ls.length c.lc, .slice c.ra c.rs.length c.rc, .slice c.ca c.cs.length c.cc] 26 1
  have g2 := World.cell?_alloc_new w #[.slice c.la c.ls.length c.lc, .slice c.ra c.rs.length c.rc, .slice c.ca c.cs.length c.cc] 26 2
  have HSZ := Lib.hid (World.size_alloc w (.cells #[.slice c.la c.ls.length c.lc, .slice c.ra c.rs.length c.rc, .slice c.ca c.cs.length c.cc] 26))
  unfold Cfg.val
  go_enter Try.func39, Try.ntmps39
  go_wp2
  generalize w.alloc (.cells #[.slice c.la c.ls.length c.lc, .slice c.ra c.rs.length c.rc, .slice c.ca c.cs.length c.cc] 26) = W at *
  simp only [List.getElem?_toArray, List.getElem?_cons_succ, List.getElem?_cons_zero] at g0 g1 g2
  have G0 := Lib.hid g0
  have G1 := Lib.hid g1
  have G2 := Lib.hid g2
  have BB := Lib.hid B
  clear B g0 g1 g2
  go_loopg [4] c.rs.length (fun g i wr => ∃ k : Nat, k ≤ c.rs.length ∧ g = c.rs.length - k ∧ i = .int .i64 k ∧ (∀ j, j < k → errI (asksR c.ls c.rs c.cs) j = 0) ∧ Below W.heap.size W wr)
  case atStart => exact ⟨0, Nat.zero_le _, rfl, rfl, fun j hj => by omega, Below.refl _ _⟩
  case round =>
    obtain ⟨k, hk, rfl, rfl, hno, B⟩ := hrel
    have HN := Lib.hid hno
    clear hno
    have g1 := (B.cell (p := ⟨w.heap.size, 1, none⟩) (by rw [HSZ.out]; simp)).trans G1.out
    by_cases hlt : k < c.rs.length
    · obtain ⟨ad, e⟩ := HIN.out.rad hlt
      have E := Lib.hid e
      obtain ⟨f0, f1, f2, f3⟩ := HIN.out.rcell e hlt (BB.out.trans (B.mono BB.out.size))
      rw [e] at g1
      clear e
      obtain ⟨r, hx⟩ : ∃ x, rAt c.rs k = x := ⟨_, rfl⟩
      rw [hx] at f0 f1 f2 f3
      have hho : r.host.size ≤ 2000 := by rw [← hx]; exact HBIG.out _ (rAt_mem hlt)
      have HX := Lib.hid hx
      clear hx
      have B2 : Below W.heap.size W (wr.alloc (.cells #[.string r.listen, .string r.host, .string r.path, .string r.cluster] 74)) := B.alloc B.size _
      have g0 := (B2.cell (p := ⟨w.heap.size, 0, none⟩) (by rw [HSZ.out]; simp)).trans G0.out
      have x0 := four_in4' wr (.string r.listen) (.string r.host) (.string r.path) (.string r.cluster) 74
      have HS2 := Lib.hid (World.size_alloc wr (.cells #[.string r.listen, .string r.host, .string r.path, .string r.cluster] 74))
      have hli := rListen_is c.la c.lc w.heap.size c.ls r.listen (wr.alloc (.cells #[.string r.listen, .string r.host, .string r.path, .string r.cluster] 74)) (HIN.out.pl.below (BB.out.trans (B2.mono BB.out.size))) HIN.out.ll HIN.out.lm
      have hpa := rpattern_is r.host (wr.alloc (.cells #[.string r.listen, .string r.host, .string r.path, .string r.cluster] 74)) hho
      have bad : ∀ e : Int, e ≠ 0 → errI (asksR c.ls c.rs c.cs) k = e → kindI3 (asksR c.ls c.rs c.cs) c.rs.length = (e, (k : Int)) := fun e h0 he => kind_at hlt HN.out he h0
      have BAD := Lib.hid bad
      clear bad hho
      obtain ⟨b1, hb1⟩ : ∃ b, hasL c.ls r.listen = b := ⟨_, rfl⟩
      obtain ⟨b2, hb2⟩ : ∃ b, patternB r.host = b := ⟨_, rfl⟩
      obtain ⟨b3, hb3⟩ : ∃ b, pathB r.path = b := ⟨_, rfl⟩
      rw [hb1] at hli
      rw [hb2] at hpa
      have H1 := Lib.hid hb1
      have H2 := Lib.hid hb2
      have H3 := Lib.hid hb3
      clear hb1 hb2 hb3
      -- the listener's and the host's own tests
      cases b1 with
      | false =>
        go_wp2_with (go_at_call 41; ((with_reducible refine hli.mono ?_); rintro e wx ⟨r1, rfl, i1, i2, rfl⟩))
        go_ret2
        rw [BAD.out 5 (by decide) (errR_listen HX.out H1.out)]
        exact ⟨rfl, BB.out.trans (B2.mono BB.out.size)⟩
      | true =>
      cases b2 with
      | false =>
        go_wp2_with (first | (go_at_call 41; ((with_reducible refine hli.mono ?_); rintro e wx ⟨r1, rfl, i1, i2, rfl⟩)) | (go_at_call 56; ((with_reducible refine hpa.mono ?_); rintro e wx ⟨rfl, kk⟩)))
        go_ret2
        rw [BAD.out 7 (by decide) (errR_host HX.out H1.out H2.out)]
        exact ⟨rfl, BB.out.trans ((B2.trans (kk.mono B2.size)).mono BB.out.size)⟩
      | true =>
        go_wp2_with (go_at_call 41; ((with_reducible refine hli.mono ?_); rintro e wx ⟨r1, rfl, i1, i2, rfl⟩))
        go_wp2_with (fail)
        refine hpa.mono ?_
        rintro e V ⟨rfl, kk⟩
        clear i1 i2 f0 f1 f2 f3 g0 g1 hli hpa
        have B3 := B2.trans (kk.mono B2.size)
        have x1 := four_below (by rw [HS2.out]; omega) x0 kk
        have g0 := (B3.cell (p := ⟨w.heap.size, 0, none⟩) (by rw [HSZ.out]; simp)).trans G0.out
        have g2 := (B3.cell (p := ⟨w.heap.size, 2, none⟩) (by rw [HSZ.out]; simp)).trans G2.out
        have hN : wr.heap.size < V.heap.size := by have := kk.size; rw [HS2.out] at this; omega
        have HNV := Lib.hid hN
        clear x0 kk B B2 hN HS2
        generalize wr.heap.size = N at *
        have BT := BB.out.trans (B3.mono BB.out.size)
        have hcl := rCluster_is c.ca c.cc w.heap.size c.cs r.cluster V (HIN.out.pc.below BT) HIN.out.cl HIN.out.cm
        have hpt := rpath_is r.path V
        rw [H3.out] at hpt
        obtain ⟨b4, hb4⟩ : ∃ b, hasC c.cs r.cluster = b := ⟨_, rfl⟩
        rw [hb4] at hcl
        have H4 := Lib.hid hb4
        clear hb4
        obtain ⟨x0, x1, x2, x3⟩ := x1
        cases b3 with
        | false =>
          go_wp2_with (go_at_call 57; ((with_reducible refine hpt.mono ?_); rintro e wx ⟨rfl, rfl⟩))
          go_ret2
          rw [BAD.out 8 (by decide) (errR_path HX.out H1.out H2.out H3.out)]
          exact ⟨rfl, BT⟩
        | true =>
        cases b4 with
        | false =>
          go_wp2_with (first | (go_at_call 57; ((with_reducible refine hpt.mono ?_); rintro e wx ⟨rfl, rfl⟩)) | (go_at_call 58; ((with_reducible refine hcl.mono ?_); rintro e wx ⟨r1, rfl, i1, i2, rfl⟩)))
          go_ret2
          rw [BAD.out 5 (by decide) (errR_cluster HX.out H1.out H2.out H3.out H4.out)]
          exact ⟨rfl, BT⟩
        | true =>
          go_wp2_with (first | (go_at_call 57; ((with_reducible refine hpt.mono ?_); rintro e wx ⟨rfl, rfl⟩)) | (go_at_call 58; ((with_reducible refine hcl.mono ?_); rintro e wx ⟨r1, rfl, i1, i2, rfl⟩)))
          clear i1 i2 hpt hcl g0 g2 BT
          have X0 := Lib.hid (show Four V ⟨N, 0, none⟩ (.string r.listen) (.string r.host) (.string r.path) (.string r.cluster) from ⟨x0, x1, x2, x3⟩)
          have B3 := Lib.hid B3
          clear x0 x1 x2 x3
          go_loopg [6] k (fun g i wi => ∃ u : Nat, u ≤ k ∧ g = k - u ∧ i = .int .i64 u ∧ ((c.rs.take u).any fun o => alikeB o r) = false ∧ Below V.heap.size V wi)
          case atStart => exact ⟨0, Nat.zero_le _, rfl, rfl, rfl, Below.refl _ _⟩
          case round =>
            obtain ⟨u, hu, rfl, rfl, hz, B⟩ := hrel
            have HZ := Lib.hid hz
            clear hz
            have B4 := Lib.hid (B3.out.trans (B.mono B3.out.size))
            have BT := Lib.hid (BB.out.trans (B4.out.mono BB.out.size))
            by_cases huk : u < k
            · have g1 := (B4.out.cell (p := ⟨w.heap.size, 1, none⟩) (by rw [HSZ.out]; simp)).trans G1.out
              rw [E.out] at g1
              have hul : u < c.rs.length := by omega
              obtain ⟨f0, f1, f2, f3⟩ := HIN.out.rcell E.out hul BT.out
              rw [rAt_get hul] at f0 f1 f2 f3
              obtain ⟨o, ho⟩ : ∃ o, c.rs[u] = o := ⟨_, rfl⟩
              rw [ho] at f0 f1 f2 f3
              have HO := Lib.hid ho
              clear ho
              have B5 : Below V.heap.size V (wr.alloc (.cells #[.string o.listen, .string o.host, .string o.path, .string o.cluster] 74)) := B.alloc B.size _
              have B6 : Below W.heap.size W (wr.alloc (.cells #[.string o.listen, .string o.host, .string o.path, .string o.cluster] 74)) := B3.out.trans (B5.mono B3.out.size)
              obtain ⟨x0, x1, x2, x3⟩ := four_below HNV.out X0.out B5
              clear x3
              obtain ⟨b1, hb1⟩ : ∃ b, (o.listen.toList == r.listen.toList) = b := ⟨_, rfl⟩
              obtain ⟨b2, hb2⟩ : ∃ b, (o.host.toList == r.host.toList) = b := ⟨_, rfl⟩
              obtain ⟨b3, hb3⟩ : ∃ b, (o.path.toList == r.path.toList) = b := ⟨_, rfl⟩
              have HB : Hid (alikeB c.rs[u] r = ((b1 && b2) && b3)) := Lib.hid (by rw [HO.out, alikeB, eqB, eqB, eqB, hb1, hb2, hb3])
              cases b1 <;> cases b2 <;> cases b3
              case true.true.true =>
                have HK := Lib.hid (BAD.out 4 (by decide) (errR_twice HX.out H1.out H2.out H3.out H4.out
                  (any_hit (k := u) (by rw [List.length_take]; omega) (by rw [List.getElem_take]; exact HB.out))))
                go_wp2_with fail
                go_ret2
                rw [HK.out]
                exact ⟨rfl, BB.out.trans (B6.mono BB.out.size)⟩
              all_goals
                go_wp2_with fail
                go_roundg (k - (u + 1))
                case measure => omega
                case rel => exact ⟨u + 1, by omega, rfl, by go_num, by rw [any_next hul, HZ.out, Bool.false_or]; exact HB.out, B5⟩
            · obtain rfl : u = k := by omega
              go_wp2_with fail
              go_roundg (c.rs.length - (u + 1))
              case measure => omega
              case rel => exact ⟨u + 1, by omega, rfl, by go_num, fun j hj => by
                by_cases e : j = u
                · subst e; exact errR_ok HX.out H1.out H2.out H3.out H4.out HZ.out
                · exact HN.out j (by omega), B4.out⟩
    · have HK : Hid (kindI3 (asksR c.ls c.rs c.cs) c.rs.length = (0, 0)) := Lib.hid (kind_none fun j hj => HN.out j (by omega))
      go_wp2_with fail
      go_ret2
      rw [HK.out]
      exact ⟨rfl, BB.out.trans (B.mono BB.out.size)⟩
end Go.Proofs.Ytmjdamcbdclgpaa
