/- The document's first error of a cluster. -/
import Derived.Test.YtmjdamcbdclgpaaCrl
namespace Go.Proofs.Ytmjdamcbdclgpaa
open Go.RowKit
set_option linter.unusedVariables false
set_option linter.unusedSimpArgs false
set_option maxRecDepth 100000

section
variable {cs : List Cl} {k : Nat} {x : Cl}
theorem errC_name (hx : cAt cs k = x) (h : nameB x.name = false) : errI (asksC cs) k = 3 := by simp [errI, asksC, pickI, cName, unlessI, hx, h]
theorem errC_twice (hx : cAt cs k = x) (h : nameB x.name = true) (h2 : hasC (cs.take k) x.name = true) : errI (asksC cs) k = 4 := by simp [errI, asksC, pickI, cName, cOnce, unlessI, hx, h, h2]
theorem errC_rest (hx : cAt cs k = x) (h : nameB x.name = true) (h2 : hasC (cs.take k) x.name = false) : errI (asksC cs) k = pickI [unlessI (x.policy == 1 || x.policy == 2) 9, unlessI (withinB x.slots 4) 10, unlessI (withinB x.hn 4) 6] := by
  simp [errI, asksC, pickI, cName, cOnce, cPolicy, cSlots, cHealth, unlessI, hx, h, h2]
end
theorem within_four (n : Int) : withinB n 4 = (!decide (n < 1) && !decide (4 < n)) := by
  unfold withinB
  rw [← decide_not, ← decide_not]
  congr 1 <;> exact decide_eq_decide.2 (by omega)
theorem pol_ne (n m : Int) : (n != m) = !(n == m) := rfl
theorem pick9 (p s h : Bool) : pickI [unlessI p 9, unlessI s 10, unlessI h 6] = bif p then (bif s then (bif h then 0 else 6) else 10) else 9 := by cases p <;> cases s <;> cases h <;> rfl

set_option maxHeartbeats 4000000 in
theorem rclusters_is (c : Cfg) (w : World) (h : CfgIn w w.heap.size c) : Calls Try.prog 38 #[c.val] w (Tells2 w (kindI3 (asksC c.cs) c.cs.length)) := by
  have hm : c.cs.length ≤ 2 ^ 63 - 1 := Nat.le_trans h.cl h.cm
  have HIN := Lib.hid h
  clear h
  have B := boxed w (.cells #[.slice c.la c.ls.length c.lc, .slice c.ra c.rs.length c.rc, .slice c.ca c.cs.length c.cc] 26)
  have g0 := World.cell?_alloc_new w #[.slice c.la c.ls.length c.lc, .slice c.ra c.rs.length c.rc, .slice c.ca c.cs.length c.cc] 26 2
  have HSZ := Lib.hid (World.size_alloc w (.cells #[.slice c.la c.ls.length c.lc, .slice c.ra c.rs.length c.rc, .slice c.ca c.cs.length c.cc] 26))
  unfold Cfg.val
  go_enter Try.func38, Try.ntmps38
  go_wp2
  generalize w.alloc (.cells #[.slice c.la c.ls.length c.lc, .slice c.ra c.rs.length c.rc, .slice c.ca c.cs.length c.cc] 26) = W at *
  simp only [List.getElem?_toArray, List.getElem?_cons_succ, List.getElem?_cons_zero] at g0
  have G0 := Lib.hid g0
  have BB := Lib.hid B
  clear B g0
  go_loopg [4] c.cs.length (fun g i wr => ∃ k : Nat, k ≤ c.cs.length ∧ g = c.cs.length - k ∧ i = .int .i64 k ∧ (∀ j, j < k → errI (asksC c.cs) j = 0) ∧ Below W.heap.size W wr)
  case atStart => exact ⟨0, Nat.zero_le _, rfl, rfl, fun j hj => by omega, Below.refl _ _⟩
  case round =>
    obtain ⟨k, hk, rfl, rfl, hno, B⟩ := hrel
    have HN := Lib.hid hno
    clear hno
    have g0 := (B.cell (p := ⟨w.heap.size, 2, none⟩) (by rw [HSZ.out]; simp)).trans G0.out
    by_cases hlt : k < c.cs.length
    · obtain ⟨ad, e⟩ := HIN.out.cad hlt
      have E := Lib.hid e
      obtain ⟨f0, f1, f2, f3⟩ := HIN.out.ccell e hlt (BB.out.trans (B.mono BB.out.size))
      rw [e] at g0
      clear e
      obtain ⟨x, hx⟩ : ∃ x, cAt c.cs k = x := ⟨_, rfl⟩
      rw [hx] at f0 f1 f2 f3
      have HX := Lib.hid hx
      clear hx
      have hn := rname_is x.name
      obtain ⟨b, hb⟩ : ∃ b, nameB x.name = b := ⟨_, rfl⟩
      rw [hb] at hn
      have HNm := Lib.hid hb
      clear hb
      have B2 : Below W.heap.size W (wr.alloc (.cells #[.string x.name, .int .i64 x.policy, .int .i64 x.slots, .slice x.ha x.hn x.hc] 72)) := B.alloc B.size _
      cases b with
      | false =>
        have HK : Hid (kindI3 (asksC c.cs) c.cs.length = (3, (k : Int))) := Lib.hid (kind_at hlt HN.out (errC_name HX.out HNm.out) (by decide))
        go_wp2_with (go_at_call 55; ((with_reducible refine (hn _).mono ?_); rintro e wx ⟨rfl, rfl⟩))
        go_ret2
        rw [HK.out]
        exact ⟨rfl, BB.out.trans (B2.mono BB.out.size)⟩
      | true =>
        have x0 := four_in4' wr (.string x.name) (.int .i64 x.policy) (.int .i64 x.slots) (.slice x.ha x.hn x.hc) 72
        have hsz := World.size_alloc wr (.cells #[.string x.name, .int .i64 x.policy, .int .i64 x.slots, .slice x.ha x.hn x.hc] 72)
        have HS2 := Lib.hid hsz
        clear hsz
        go_wp2_with (go_at_call 55; ((with_reducible refine (hn _).mono ?_); rintro e wx ⟨rfl, rfl⟩))
        clear f0 f1 f2 f3 g0 hn B
        generalize wr.alloc (.cells #[.string x.name, .int .i64 x.policy, .int .i64 x.slots, .slice x.ha x.hn x.hc] 72) = V at *
        generalize wr.heap.size = N at *
        have X0 := Lib.hid x0
        have B2 := Lib.hid B2
        clear x0
        go_loopg [6] k (fun g i wi => ∃ u : Nat, u ≤ k ∧ g = k - u ∧ i = .int .i64 u ∧ ((c.cs.take u).any fun y => eqB y.name x.name) = false ∧ Below V.heap.size V wi)
        case atStart => exact ⟨0, Nat.zero_le _, rfl, rfl, rfl, Below.refl _ _⟩
        case round =>
          obtain ⟨u, hu, rfl, rfl, hz, B⟩ := hrel
          have HZ := Lib.hid hz
          clear hz
          have B3 := Lib.hid (B2.out.trans (B.mono B2.out.size))
          have BT := Lib.hid (BB.out.trans (B3.out.mono BB.out.size))
          obtain ⟨x0, x1, x2, x3⟩ := four_below (w := V) (W := wr) (p := N) (by rw [HS2.out]; omega) X0.out B
          by_cases huk : u < k
          · have g0 := (B3.out.cell (p := ⟨w.heap.size, 2, none⟩) (by rw [HSZ.out]; simp)).trans G0.out
            rw [E.out] at g0
            have hul : u < c.cs.length := by omega
            obtain ⟨f0, f1, f2, f3⟩ := HIN.out.ccell E.out hul BT.out
            rw [cAt_get hul] at f0
            clear f1 f2 f3 x1 x2 x3
            obtain ⟨b, hb⟩ : ∃ b, (c.cs[u].name.toList == x.name.toList) = b := ⟨_, rfl⟩
            have HB := Lib.hid hb
            generalize c.cs[u].name = y at f0 hb
            cases b with
            | true =>
              have HK : Hid (kindI3 (asksC c.cs) c.cs.length = (4, (k : Int))) := Lib.hid (kind_at hlt HN.out (errC_twice HX.out HNm.out
                (any_hit (k := u) (by rw [List.length_take]; omega) (by rw [List.getElem_take]; exact HB.out))) (by decide))
              go_wp2_with fail
              go_quiet (fail)
              go_wp2_with fail
              go_ret2
              rw [HK.out]
              exact ⟨rfl, below_drewN BT.out _⟩
            | false =>
              go_wp2_with fail
              go_quiet (fail)
              go_wp2_with fail
              go_roundg (k - (u + 1))
              case measure => omega
              case rel => exact ⟨u + 1, by omega, rfl, by go_num, by rw [any_next hul, HZ.out, Bool.false_or]; exact HB.out, below_drewN B _⟩
          · obtain rfl : u = k := by omega
            have hrest := errC_rest HX.out HNm.out HZ.out
            rw [within_four, within_four, pick9] at hrest
            clear x0
            obtain ⟨p1, hp1⟩ : ∃ b, (x.policy == 1) = b := ⟨_, rfl⟩
            obtain ⟨p2, hp2⟩ : ∃ b, (x.policy == 2) = b := ⟨_, rfl⟩
            have q1 := pol_ne x.policy 1
            have q2 := pol_ne x.policy 2
            obtain ⟨s1, hs1⟩ : ∃ b, decide (x.slots < 1) = b := ⟨_, rfl⟩
            obtain ⟨s2, hs2⟩ : ∃ b, decide (4 < x.slots) = b := ⟨_, rfl⟩
            obtain ⟨t1, ht1⟩ : ∃ b, decide ((x.hn : Int) < 1) = b := ⟨_, rfl⟩
            obtain ⟨t2, ht2⟩ : ∃ b, decide (4 < (x.hn : Int)) = b := ⟨_, rfl⟩
            rw [hp1, hp2, hs1, hs2, ht1, ht2] at hrest
            rw [hp1] at q1
            rw [hp2] at q2
            generalize x.hn = hn at x3 ht1 ht2
            generalize x.slots = sl at x2 hs1 hs2
            generalize x.policy = pol at x1 hp1 hp2 q1 q2
            generalize x.ha = ha at x3
            generalize x.hc = hcc at x3
            have bad : ∀ e : Int, e ≠ 0 → errI (asksC c.cs) u = e → kindI3 (asksC c.cs) c.cs.length = (e, (u : Int)) := fun e h0 he => kind_at hlt HN.out he h0
            have BAD := Lib.hid bad
            clear bad
            have HR := Lib.hid hrest
            clear hrest
            cases p1 with
            | true =>
              cases s1 with
              | true =>
                go_wp2_with fail
                go_ret2
                rw [BAD.out 10 (by decide) HR.out]
                exact ⟨rfl, BT.out⟩
              | false =>
                cases s2 with
                | true =>
                  go_wp2_with fail
                  go_ret2
                  rw [BAD.out 10 (by decide) HR.out]
                  exact ⟨rfl, BT.out⟩
                | false =>
                  cases t1 with
                  | true =>
                    go_wp2_with fail
                    go_ret2
                    rw [BAD.out 6 (by decide) HR.out]
                    exact ⟨rfl, BT.out⟩
                  | false =>
                    cases t2 with
                    | true =>
                      go_wp2_with fail
                      go_ret2
                      rw [BAD.out 6 (by decide) HR.out]
                      exact ⟨rfl, BT.out⟩
                    | false =>
                      go_wp2_with fail
                      go_roundg (c.cs.length - (u + 1))
                      case measure => omega
                      case rel => exact ⟨u + 1, by omega, rfl, by go_num, fun j hj => by
                        by_cases e : j = u
                        · subst e; exact HR.out
                        · exact HN.out j (by omega), B3.out⟩
            | false =>
              cases p2 with
              | false =>
                go_wp2_with fail
                go_ret2
                rw [BAD.out 9 (by decide) HR.out]
                exact ⟨rfl, BT.out⟩
              | true =>
                cases s1 with
                | true =>
                  go_wp2_with fail
                  go_ret2
                  rw [BAD.out 10 (by decide) HR.out]
                  exact ⟨rfl, BT.out⟩
                | false =>
                  cases s2 with
                  | true =>
                    go_wp2_with fail
                    go_ret2
                    rw [BAD.out 10 (by decide) HR.out]
                    exact ⟨rfl, BT.out⟩
                  | false =>
                    cases t1 with
                    | true =>
                      go_wp2_with fail
                      go_ret2
                      rw [BAD.out 6 (by decide) HR.out]
                      exact ⟨rfl, BT.out⟩
                    | false =>
                      cases t2 with
                      | true =>
                        go_wp2_with fail
                        go_ret2
                        rw [BAD.out 6 (by decide) HR.out]
                        exact ⟨rfl, BT.out⟩
                      | false =>
                        go_wp2_with fail
                        go_roundg (c.cs.length - (u + 1))
                        case measure => omega
                        case rel => exact ⟨u + 1, by omega, rfl, by go_num, fun j hj => by
                          by_cases e : j = u
                          · subst e; exact HR.out
                          · exact HN.out j (by omega), B3.out⟩
    · have HX : Hid (kindI3 (asksC c.cs) c.cs.length = (0, 0)) := Lib.hid (kind_none fun j hj => HN.out j (by omega))
      go_wp2_with fail
      go_ret2
      rw [HX.out]
      exact ⟨rfl, BB.out.trans (B.mono BB.out.size)⟩
end Go.Proofs.Ytmjdamcbdclgpaa
