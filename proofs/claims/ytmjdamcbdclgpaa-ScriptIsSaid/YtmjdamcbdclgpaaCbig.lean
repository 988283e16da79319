/- The document's Big. -/
import Derived.Test.YtmjdamcbdclgpaaM2
import Derived.LoopTactic
namespace Go.Proofs.Ytmjdamcbdclgpaa
open Go.RowKit
set_option linter.unusedVariables false
set_option linter.unusedSimpArgs false
set_option maxRecDepth 100000

theorem big_yes (c : Cfg) (w : World) (hb : big3 c.ls c.rs c.cs = true) : Calls Try.prog 22 #[c.val] w (Says w true) := by
  obtain ⟨la, lc, ls, ra, rc, rs, ca, cc, cs⟩ := c
  unfold Cfg.val
  simp only at hb ⊢
  have B := boxed w (.cells #[.slice la ls.length lc, .slice ra rs.length rc, .slice ca cs.length cc] 26)
  unfold big3 at hb
  obtain ⟨b1, hb1⟩ : ∃ b, decide (50 < (ls.length : Int)) = b := ⟨_, rfl⟩
  obtain ⟨b2, hb2⟩ : ∃ b, decide (50 < (rs.length : Int)) = b := ⟨_, rfl⟩
  obtain ⟨b3, hb3⟩ : ∃ b, decide (50 < (cs.length : Int)) = b := ⟨_, rfl⟩
  rw [hb1, hb2, hb3] at hb
  cases b1 <;> cases b2 <;> cases b3
  case false.false.false => simp at hb
  all_goals
    clear hb
    go_enter Try.func22, Try.ntmps22
    go_wp2
    go_ret
    exact ⟨rfl, B⟩

set_option maxHeartbeats 1000000 in
theorem big_runs (c : Cfg) (w : World) (h : CfgIn w w.heap.size c) (hb : big3 c.ls c.rs c.cs = false) : Calls Try.prog 22 #[c.val] w (Says w (bigB c.ls c.rs c.cs)) := by
  have HIN := Lib.hid h
  have HB3 := Lib.hid hb
  clear h
  have B := boxed w (.cells #[.slice c.la c.ls.length c.lc, .slice c.ra c.rs.length c.rc, .slice c.ca c.cs.length c.cc] 26)
  have g0 := World.cell?_alloc_new w #[.slice c.la c.ls.length c.lc, .slice c.ra c.rs.length c.rc, .slice c.ca c.cs.length c.cc] 26 2
  have g1 := World.cell?_alloc_new w #[.slice c.la c.ls.length c.lc, .slice c.ra c.rs.length c.rc, .slice c.ca c.cs.length c.cc] 26 1
  have hc50 : c.cs.length ≤ 50 := by unfold big3 at hb; simp only [Bool.or_eq_false_iff, decide_eq_false_iff_not] at hb; omega
  have hr50 : c.rs.length ≤ 50 := by unfold big3 at hb; simp only [Bool.or_eq_false_iff, decide_eq_false_iff_not] at hb; omega
  unfold big3 at hb
  simp only [Bool.or_eq_false_iff] at hb
  obtain ⟨⟨h1, h2⟩, h3⟩ := hb
  unfold Cfg.val
  go_enter Try.func22, Try.ntmps22
  go_wp2
  clear h1 h2 h3
  generalize w.alloc (.cells #[.slice c.la c.ls.length c.lc, .slice c.ra c.rs.length c.rc, .slice c.ca c.cs.length c.cc] 26) = W at *
  simp only [List.getElem?_toArray, List.getElem?_cons_succ, List.getElem?_cons_zero] at g0 g1
  have BB := Lib.hid B
  clear B
  go_loop [3] (fun i => ∃ k : Nat, k ≤ c.cs.length ∧ i = .int .i64 k ∧ (c.cs.take k).any bigC = false) (fun i => c.cs.length - (intOf i).toNat)
  case atStart => exact ⟨0, Nat.zero_le _, rfl, rfl⟩
  case round =>
    obtain ⟨k, hk, rfl, hno⟩ := hrel
    have HN := Lib.hid hno
    clear hno
    by_cases hlt : k < c.cs.length
    · obtain ⟨ad, e, f0, f1, f2, f3⟩ := HIN.out.clusterAt hlt BB.out
      rw [cAt_get hlt] at f0 f3
      rw [e] at g0
      clear f1 f2 e
      obtain ⟨b1, hb1⟩ : ∃ b, decide (50 < (c.cs[k].hn : Int)) = b := ⟨_, rfl⟩
      obtain ⟨b2, hb2⟩ : ∃ b, decide (100 < (c.cs[k].name.size : Int)) = b := ⟨_, rfl⟩
      have HX : Hid (bigC c.cs[k] = (b1 || b2)) := Lib.hid (by rw [bigC, hb1, hb2])
      generalize c.cs[k].hn = hn at f3 hb1
      generalize c.cs[k].name = nm at f0 hb2
      generalize c.cs[k].ha = ha at f3
      generalize c.cs[k].hc = hc at f3
      cases b1 <;> cases b2
      case false.false =>
        go_wp2
        go_round
        case rel => exact ⟨k + 1, by omega, by go_num, by rw [any_next hlt, HN.out, Bool.false_or]; exact HX.out⟩
        case measure => simp [intOf]; omega
      all_goals
        go_wp2
        go_ret
        rw [show bigB c.ls c.rs c.cs = true by rw [bigB, any_hit hlt HX.out]; simp]
        exact ⟨rfl, BB.out⟩
    · have HCS : Hid (c.cs.any bigC = false) := Lib.hid (any_end hlt HN.out)
      go_wp2
      clear g0
      go_loop [4] (fun i => ∃ k : Nat, k ≤ c.rs.length ∧ i = .int .i64 k ∧ (c.rs.take k).any bigR = false) (fun i => c.rs.length - (intOf i).toNat)
      case atStart => exact ⟨0, Nat.zero_le _, rfl, rfl⟩
      case round =>
        clear hk hlt HN
        obtain ⟨k, hk, rfl, hno⟩ := hrel
        have HN := Lib.hid hno
        clear hno
        by_cases hlt : k < c.rs.length
        · obtain ⟨ad, e, f0, f1, f2, f3⟩ := HIN.out.routeAt hlt BB.out
          rw [rAt_get hlt] at f1 f2
          rw [e] at g1
          clear f0 f3 e
          obtain ⟨b1, hb1⟩ : ∃ b, decide (100 < (c.rs[k].host.size : Int)) = b := ⟨_, rfl⟩
          obtain ⟨b2, hb2⟩ : ∃ b, decide (100 < (c.rs[k].path.size : Int)) = b := ⟨_, rfl⟩
          have HX : Hid (bigR c.rs[k] = (b1 || b2)) := Lib.hid (by rw [bigR, hb1, hb2])
          generalize c.rs[k].host = ho at f1 hb1
          generalize c.rs[k].path = pa at f2 hb2
          cases b1 <;> cases b2
          case false.false =>
            go_wp2
            go_round
            case rel => exact ⟨k + 1, by omega, by go_num, by rw [any_next hlt, HN.out, Bool.false_or]; exact HX.out⟩
            case measure => simp [intOf]; omega
          all_goals
            go_wp2
            go_ret
            rw [show bigB c.ls c.rs c.cs = true by rw [bigB, any_hit hlt HX.out]; simp]
            exact ⟨rfl, BB.out⟩
        · go_wp2
          go_ret
          rw [show bigB c.ls c.rs c.cs = false by rw [bigB, HB3.out, HCS.out, any_end hlt HN.out]; rfl]
          exact ⟨rfl, BB.out⟩

theorem big_is (c : Cfg) (w : World) (h : CfgIn w w.heap.size c) : Calls Try.prog 22 #[c.val] w (Says w (bigB c.ls c.rs c.cs)) := by
  rcases hb : big3 c.ls c.rs c.cs with _ | _
  · exact big_runs c w h hb
  · refine (big_yes c w hb).mono fun e w' hh => hh.of ?_
    rw [bigB, hb]
    rfl
end Go.Proofs.Ytmjdamcbdclgpaa
