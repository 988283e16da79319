/- What package config asks of one part: the calls that need no look at other parts. -/
import Derived.Test.YtlaibkinkopkiaaCin
import Derived.Test.YtlaibkinkopkiaaNstar
import Derived.Test.YtlaibkinkopkiaaNref
import Derived.Test.YtlaibkinkopkiaaNhasP
namespace Go.Proofs.Ytlaibkinkopkiaa
open Go.RowKit
set_option linter.unusedVariables false
set_option linter.unusedSimpArgs false
set_option maxRecDepth 100000

theorem unless_is (b : Bool) (n : Int) (w : World) : Calls Try.prog 48 #[.bool b, .int .i64 n] w fun e w' => e = .returned (.int .i64 (unlessI b n)) ∧ w = w' := by
  cases b
  all_goals
    go_enter Try.func48, Try.ntmps48
    go_wp2
    go_ret
    exact ⟨rfl, rfl⟩
theorem within_is (n m : Int) (w : World) : Calls Try.prog 17 #[.int .i64 n, .int .i64 m] w fun e w' => e = .returned (.bool (withinB n m)) ∧ w = w' := by
  obtain ⟨a, ha⟩ : ∃ a, decide (1 ≤ n) = a := ⟨_, rfl⟩
  obtain ⟨b, hb⟩ : ∃ b, decide (n ≤ m) = b := ⟨_, rfl⟩
  unfold withinB
  rw [ha, hb]
  cases a <;> cases b
  all_goals
    go_enter Try.func17, Try.ntmps17
    go_wp2
    go_ret
    exact ⟨rfl, rfl⟩

theorem boxed (w : World) (o : Obj) : Below w.heap.size w (w.alloc o) := (Below.refl _ _).alloc (Nat.le_refl _) _

theorem clusterName_is (c : Cfg) (i : Nat) (w : World) (h : CfgIn w w.heap.size c) (hi : i < c.cs.length) :
    Calls Try.prog 33 #[c.val, .int .i64 i] w (TellsI w (cName c.cs i)) := by
  obtain ⟨ad, e, f0, f1, f2, f3⟩ := h.clusterAt hi (boxed w (.cells #[.slice c.la c.ls.length c.lc, .slice c.ra c.rs.length c.rc, .slice c.ca c.cs.length c.cc] 43))
  clear h
  obtain ⟨la, lc, ls, ra, rc, rs, ca, cc, cs⟩ := c
  simp only at e f0 f1 f2 f3 hi
  subst e
  unfold Cfg.val cName
  simp only
  generalize cAt cs i = x at f0 f1 f2 f3 ⊢
  obtain ⟨nm, pol, sl, ha, hn, hcc⟩ := x
  simp only at f0 f1 f2 f3 ⊢
  have B := boxed w (.cells #[.slice la ls.length lc, .slice ra rs.length rc, .slice (some ad) cs.length cc] 43)
  obtain ⟨b, hb⟩ : ∃ b, nameB nm = b := ⟨_, rfl⟩
  have hn := name_is nm
  rw [hb] at hn ⊢
  go_enter Try.func33, Try.ntmps33
  go_wp2_with (first | (go_at_call 16; ((with_reducible refine (hn _).mono ?_); rintro e wx ⟨rfl, kk⟩; replace B := below_next B kk; clear kk))| (go_at_call 48; ((with_reducible refine (unless_is _ _ _).mono ?_); rintro e wx ⟨rfl, rfl⟩)))
  go_ret
  exact ⟨rfl, B⟩

theorem policy_is (c : Cfg) (i : Nat) (w : World) (h : CfgIn w w.heap.size c) (hi : i < c.cs.length) :
    Calls Try.prog 35 #[c.val, .int .i64 i] w (TellsI w (cPolicy c.cs i)) := by
  obtain ⟨ad, e, f0, f1, f2, f3⟩ := h.clusterAt hi (boxed w (.cells #[.slice c.la c.ls.length c.lc, .slice c.ra c.rs.length c.rc, .slice c.ca c.cs.length c.cc] 43))
  clear h
  obtain ⟨la, lc, ls, ra, rc, rs, ca, cc, cs⟩ := c
  simp only at e f0 f1 f2 f3 hi
  subst e
  unfold Cfg.val cPolicy
  simp only
  generalize cAt cs i = x at f0 f1 f2 f3 ⊢
  obtain ⟨nm, pol, sl, ha, hn, hcc⟩ := x
  simp only at f0 f1 f2 f3 ⊢
  have B := boxed w (.cells #[.slice la ls.length lc, .slice ra rs.length rc, .slice (some ad) cs.length cc] 43)
  obtain ⟨b1, hb1⟩ : ∃ b, (pol == 1) = b := ⟨_, rfl⟩
  obtain ⟨b2, hb2⟩ : ∃ b, (pol == 2) = b := ⟨_, rfl⟩
  rw [hb1, hb2]
  cases b1 <;> cases b2 <;> simp only [Bool.or_true, Bool.or_false, Bool.true_or, Bool.false_or]
  all_goals (
  go_enter Try.func35, Try.ntmps35
  go_wp2_with (first | (go_at_call 48; ((with_reducible refine (unless_is _ _ _).mono ?_); rintro e wx ⟨rfl, rfl⟩)))
  go_ret
  exact ⟨rfl, B⟩)

theorem slots_is (c : Cfg) (i : Nat) (w : World) (h : CfgIn w w.heap.size c) (hi : i < c.cs.length) :
    Calls Try.prog 36 #[c.val, .int .i64 i] w (TellsI w (cSlots c.cs i)) := by
  obtain ⟨ad, e, f0, f1, f2, f3⟩ := h.clusterAt hi (boxed w (.cells #[.slice c.la c.ls.length c.lc, .slice c.ra c.rs.length c.rc, .slice c.ca c.cs.length c.cc] 43))
  clear h
  obtain ⟨la, lc, ls, ra, rc, rs, ca, cc, cs⟩ := c
  simp only at e f0 f1 f2 f3 hi
  subst e
  unfold Cfg.val cSlots
  simp only
  generalize cAt cs i = x at f0 f1 f2 f3 ⊢
  obtain ⟨nm, pol, sl, ha, hn, hcc⟩ := x
  simp only at f0 f1 f2 f3 ⊢
  have B := boxed w (.cells #[.slice la ls.length lc, .slice ra rs.length rc, .slice (some ad) cs.length cc] 43)
  obtain ⟨b, hb⟩ : ∃ b, withinB sl 4 = b := ⟨_, rfl⟩
  have hn := within_is sl 4
  rw [hb] at hn ⊢
  go_enter Try.func36, Try.ntmps36
  go_wp2_with (first | (go_at_call 17; ((with_reducible refine (hn _).mono ?_); rintro e wx ⟨rfl, rfl⟩))| (go_at_call 48; ((with_reducible refine (unless_is _ _ _).mono ?_); rintro e wx ⟨rfl, rfl⟩)))
  go_ret
  exact ⟨rfl, B⟩

theorem health_is (c : Cfg) (i : Nat) (w : World) (h : CfgIn w w.heap.size c) (hi : i < c.cs.length) :
    Calls Try.prog 37 #[c.val, .int .i64 i] w (TellsI w (cHealth c.cs i)) := by
  obtain ⟨ad, e, f0, f1, f2, f3⟩ := h.clusterAt hi (boxed w (.cells #[.slice c.la c.ls.length c.lc, .slice c.ra c.rs.length c.rc, .slice c.ca c.cs.length c.cc] 43))
  clear h
  obtain ⟨la, lc, ls, ra, rc, rs, ca, cc, cs⟩ := c
  simp only at e f0 f1 f2 f3 hi
  subst e
  unfold Cfg.val cHealth
  simp only
  generalize cAt cs i = x at f0 f1 f2 f3 ⊢
  obtain ⟨nm, pol, sl, ha, hn, hcc⟩ := x
  simp only at f0 f1 f2 f3 ⊢
  have B := boxed w (.cells #[.slice la ls.length lc, .slice ra rs.length rc, .slice (some ad) cs.length cc] 43)
  obtain ⟨b, hb⟩ : ∃ b, withinB (hn : Int) 4 = b := ⟨_, rfl⟩
  have hw := within_is hn 4
  rw [hb] at hw ⊢
  go_enter Try.func37, Try.ntmps37
  go_wp2_with (first | (go_at_call 17; ((with_reducible refine (hw _).mono ?_); rintro e wx ⟨rfl, rfl⟩))| (go_at_call 48; ((with_reducible refine (unless_is _ _ _).mono ?_); rintro e wx ⟨rfl, rfl⟩)))
  go_ret
  exact ⟨rfl, B⟩

theorem hostAsk_is (c : Cfg) (i : Nat) (w : World) (h : CfgIn w w.heap.size c) (hi : i < c.rs.length) :
    Calls Try.prog 39 #[c.val, .int .i64 i] w (TellsI w (rHost c.rs i)) := by
  obtain ⟨ad, e, f0, f1, f2, f3⟩ := h.routeAt hi (boxed w (.cells #[.slice c.la c.ls.length c.lc, .slice c.ra c.rs.length c.rc, .slice c.ca c.cs.length c.cc] 43))
  clear h
  obtain ⟨la, lc, ls, ra, rc, rs, ca, cc, cs⟩ := c
  simp only at e f0 f1 f2 f3 hi
  subst e
  unfold Cfg.val rHost
  simp only
  generalize rAt rs i = x at f0 f1 f2 f3 ⊢
  obtain ⟨li, ho, pa, cl⟩ := x
  simp only at f0 f1 f2 f3 ⊢
  have B := boxed w (.cells #[.slice la ls.length lc, .slice (some ad) rs.length rc, .slice ca cs.length cc] 43)
  obtain ⟨b, hb⟩ : ∃ b, patternB ho = b := ⟨_, rfl⟩
  have hn := pattern_is ho
  rw [hb] at hn ⊢
  go_enter Try.func39, Try.ntmps39
  go_wp2_with (first | (go_at_call 14; ((with_reducible refine (hn _).mono ?_); rintro e wx ⟨rfl, kk⟩; replace B := below_next B kk; clear kk))| (go_at_call 48; ((with_reducible refine (unless_is _ _ _).mono ?_); rintro e wx ⟨rfl, rfl⟩)))
  go_ret
  exact ⟨rfl, B⟩

theorem pathAsk_is (c : Cfg) (i : Nat) (w : World) (h : CfgIn w w.heap.size c) (hi : i < c.rs.length) :
    Calls Try.prog 40 #[c.val, .int .i64 i] w (TellsI w (rPath c.rs i)) := by
  obtain ⟨ad, e, f0, f1, f2, f3⟩ := h.routeAt hi (boxed w (.cells #[.slice c.la c.ls.length c.lc, .slice c.ra c.rs.length c.rc, .slice c.ca c.cs.length c.cc] 43))
  clear h
  obtain ⟨la, lc, ls, ra, rc, rs, ca, cc, cs⟩ := c
  simp only at e f0 f1 f2 f3 hi
  subst e
  unfold Cfg.val rPath
  simp only
  generalize rAt rs i = x at f0 f1 f2 f3 ⊢
  obtain ⟨li, ho, pa, cl⟩ := x
  simp only at f0 f1 f2 f3 ⊢
  have B := boxed w (.cells #[.slice la ls.length lc, .slice (some ad) rs.length rc, .slice ca cs.length cc] 43)
  obtain ⟨b, hb⟩ : ∃ b, pathB pa = b := ⟨_, rfl⟩
  have hn := path_is pa
  rw [hb] at hn ⊢
  go_enter Try.func40, Try.ntmps40
  go_wp2_with (first | (go_at_call 15; ((with_reducible refine (hn _).mono ?_); rintro e wx ⟨rfl, kk⟩; replace B := below_next B kk; clear kk))| (go_at_call 48; ((with_reducible refine (unless_is _ _ _).mono ?_); rintro e wx ⟨rfl, rfl⟩)))
  go_ret
  exact ⟨rfl, B⟩

theorem listenName_is (c : Cfg) (i : Nat) (w : World) (h : CfgIn w w.heap.size c) (hi : i < c.ls.length) :
    Calls Try.prog 31 #[c.val, .int .i64 i] w (TellsI w (lName c.ls i)) := by
  obtain ⟨ad, e, f0⟩ := h.listenAt hi (boxed w (.cells #[.slice c.la c.ls.length c.lc, .slice c.ra c.rs.length c.rc, .slice c.ca c.cs.length c.cc] 43))
  clear h
  obtain ⟨la, lc, ls, ra, rc, rs, ca, cc, cs⟩ := c
  simp only at e f0 hi
  subst e
  unfold Cfg.val lName
  simp only
  generalize lAt ls i = nm at f0 ⊢
  have B := boxed w (.cells #[.slice (some ad) ls.length lc, .slice ra rs.length rc, .slice ca cs.length cc] 43)
  obtain ⟨b, hb⟩ : ∃ b, nameB nm = b := ⟨_, rfl⟩
  have hn := name_is nm
  rw [hb] at hn ⊢
  go_enter Try.func31, Try.ntmps31
  go_wp2_with (first | (go_at_call 16; ((with_reducible refine (hn _).mono ?_); rintro e wx ⟨rfl, kk⟩; replace B := below_next B kk; clear kk))| (go_at_call 48; ((with_reducible refine (unless_is _ _ _).mono ?_); rintro e wx ⟨rfl, rfl⟩)))
  go_ret
  exact ⟨rfl, B⟩
end Go.Proofs.Ytlaibkinkopkiaa
