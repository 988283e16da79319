/- What package config asks of one part: the calls that need no look at other parts. -/
import Derived.Test.YtmjdamcbdclgpaaM1
import Derived.Test.YtmjdamcbdclgpaaNhasP
import Derived.LoopTactic
namespace Go.Proofs.Ytmjdamcbdclgpaa
open Go.RowKit
set_option linter.unusedVariables false
set_option linter.unusedSimpArgs false
set_option maxRecDepth 100000

theorem unless_is (b : Bool) (n : Int) (w : World) : Calls Try.prog 59 #[.bool b, .int .i64 n] w fun e w' => e = .returned (.int .i64 (unlessI b n)) ∧ w = w' := by
  cases b
  all_goals
    go_enter Try.func59, Try.ntmps59
    go_wp2
    go_ret
    exact ⟨rfl, rfl⟩
theorem within_is (n m : Int) (w : World) : Calls Try.prog 33 #[.int .i64 n, .int .i64 m] w fun e w' => e = .returned (.bool (withinB n m)) ∧ w = w' := by
  obtain ⟨a, ha⟩ : ∃ a, decide (1 ≤ n) = a := ⟨_, rfl⟩
  obtain ⟨b, hb⟩ : ∃ b, decide (n ≤ m) = b := ⟨_, rfl⟩
  unfold withinB
  rw [ha, hb]
  cases a <;> cases b
  all_goals
    go_enter Try.func33, Try.ntmps33
    go_wp2
    go_ret
    exact ⟨rfl, rfl⟩


theorem clusterName_is (c : Cfg) (i : Nat) (w : World) (h : CfgIn w w.heap.size c) (hi : i < c.cs.length) :
    Calls Try.prog 45 #[c.val, .int .i64 i] w (TellsI w (cName c.cs i)) := by
  obtain ⟨ad, e, f0, f1, f2, f3⟩ := h.clusterAt hi (boxed w (.cells #[.slice c.la c.ls.length c.lc, .slice c.ra c.rs.length c.rc, .slice c.ca c.cs.length c.cc] 64))
  clear h
  obtain ⟨la, lc, ls, ra, rc, rs, ca, cc, cs⟩ := c
  simp only at e f0 f1 f2 f3 hi
  subst e
  unfold Cfg.val cName
  simp only
  generalize cAt cs i = x at f0 f1 f2 f3 ⊢
  obtain ⟨nm, pol, sl, ha, hn, hcc⟩ := x
  simp only at f0 f1 f2 f3 ⊢
  have B := boxed w (.cells #[.slice la ls.length lc, .slice ra rs.length rc, .slice (some ad) cs.length cc] 64)
  obtain ⟨b, hb⟩ : ∃ b, nameB nm = b := ⟨_, rfl⟩
  have hn := name_is nm
  rw [hb] at hn ⊢
  go_enter Try.func45, Try.ntmps45
  go_wp2_with (first | (go_at_call 60; ((with_reducible refine (hn _).mono ?_); rintro e wx ⟨rfl, kk⟩; replace B := below_next B kk; clear kk))| (go_at_call 59; ((with_reducible refine (unless_is _ _ _).mono ?_); rintro e wx ⟨rfl, rfl⟩)))
  go_ret
  exact ⟨rfl, B⟩

theorem policy_is (c : Cfg) (i : Nat) (w : World) (h : CfgIn w w.heap.size c) (hi : i < c.cs.length) :
    Calls Try.prog 47 #[c.val, .int .i64 i] w (TellsI w (cPolicy c.cs i)) := by
  obtain ⟨ad, e, f0, f1, f2, f3⟩ := h.clusterAt hi (boxed w (.cells #[.slice c.la c.ls.length c.lc, .slice c.ra c.rs.length c.rc, .slice c.ca c.cs.length c.cc] 64))
  clear h
  obtain ⟨la, lc, ls, ra, rc, rs, ca, cc, cs⟩ := c
  simp only at e f0 f1 f2 f3 hi
  subst e
  unfold Cfg.val cPolicy
  simp only
  generalize cAt cs i = x at f0 f1 f2 f3 ⊢
  obtain ⟨nm, pol, sl, ha, hn, hcc⟩ := x
  simp only at f0 f1 f2 f3 ⊢
  have B := boxed w (.cells #[.slice la ls.length lc, .slice ra rs.length rc, .slice (some ad) cs.length cc] 64)
  obtain ⟨b1, hb1⟩ : ∃ b, (pol == 1) = b := ⟨_, rfl⟩
  obtain ⟨b2, hb2⟩ : ∃ b, (pol == 2) = b := ⟨_, rfl⟩
  rw [hb1, hb2]
  cases b1 <;> cases b2 <;> simp only [Bool.or_true, Bool.or_false, Bool.true_or, Bool.false_or]
  all_goals (
  go_enter Try.func47, Try.ntmps47
  go_wp2_with (first | (go_at_call 59; ((with_reducible refine (unless_is _ _ _).mono ?_); rintro e wx ⟨rfl, rfl⟩)))
  go_ret
  exact ⟨rfl, B⟩)

theorem slots_is (c : Cfg) (i : Nat) (w : World) (h : CfgIn w w.heap.size c) (hi : i < c.cs.length) :
    Calls Try.prog 48 #[c.val, .int .i64 i] w (TellsI w (cSlots c.cs i)) := by
  obtain ⟨ad, e, f0, f1, f2, f3⟩ := h.clusterAt hi (boxed w (.cells #[.slice c.la c.ls.length c.lc, .slice c.ra c.rs.length c.rc, .slice c.ca c.cs.length c.cc] 64))
  clear h
  obtain ⟨la, lc, ls, ra, rc, rs, ca, cc, cs⟩ := c
  simp only at e f0 f1 f2 f3 hi
  subst e
  unfold Cfg.val cSlots
  simp only
  generalize cAt cs i = x at f0 f1 f2 f3 ⊢
  obtain ⟨nm, pol, sl, ha, hn, hcc⟩ := x
  simp only at f0 f1 f2 f3 ⊢
  have B := boxed w (.cells #[.slice la ls.length lc, .slice ra rs.length rc, .slice (some ad) cs.length cc] 64)
  obtain ⟨b, hb⟩ : ∃ b, withinB sl 4 = b := ⟨_, rfl⟩
  have hn := within_is sl 4
  rw [hb] at hn ⊢
  go_enter Try.func48, Try.ntmps48
  go_wp2_with (first | (go_at_call 33; ((with_reducible refine (hn _).mono ?_); rintro e wx ⟨rfl, rfl⟩))| (go_at_call 59; ((with_reducible refine (unless_is _ _ _).mono ?_); rintro e wx ⟨rfl, rfl⟩)))
  go_ret
  exact ⟨rfl, B⟩

theorem health_is (c : Cfg) (i : Nat) (w : World) (h : CfgIn w w.heap.size c) (hi : i < c.cs.length) :
    Calls Try.prog 49 #[c.val, .int .i64 i] w (TellsI w (cHealth c.cs i)) := by
  obtain ⟨ad, e, f0, f1, f2, f3⟩ := h.clusterAt hi (boxed w (.cells #[.slice c.la c.ls.length c.lc, .slice c.ra c.rs.length c.rc, .slice c.ca c.cs.length c.cc] 64))
  clear h
  obtain ⟨la, lc, ls, ra, rc, rs, ca, cc, cs⟩ := c
  simp only at e f0 f1 f2 f3 hi
  subst e
  unfold Cfg.val cHealth
  simp only
  generalize cAt cs i = x at f0 f1 f2 f3 ⊢
  obtain ⟨nm, pol, sl, ha, hn, hcc⟩ := x
  simp only at f0 f1 f2 f3 ⊢
  have B := boxed w (.cells #[.slice la ls.length lc, .slice ra rs.length rc, .slice (some ad) cs.length cc] 64)
  obtain ⟨b, hb⟩ : ∃ b, withinB (hn : Int) 4 = b := ⟨_, rfl⟩
  have hw := within_is hn 4
  rw [hb] at hw ⊢
  go_enter Try.func49, Try.ntmps49
  go_wp2_with (first | (go_at_call 33; ((with_reducible refine (hw _).mono ?_); rintro e wx ⟨rfl, rfl⟩))| (go_at_call 59; ((with_reducible refine (unless_is _ _ _).mono ?_); rintro e wx ⟨rfl, rfl⟩)))
  go_ret
  exact ⟨rfl, B⟩

theorem hostAsk_is (c : Cfg) (i : Nat) (w : World) (h : CfgIn w w.heap.size c) (hi : i < c.rs.length) :
    Calls Try.prog 51 #[c.val, .int .i64 i] w (TellsI w (rHost c.rs i)) := by
  obtain ⟨ad, e, f0, f1, f2, f3⟩ := h.routeAt hi (boxed w (.cells #[.slice c.la c.ls.length c.lc, .slice c.ra c.rs.length c.rc, .slice c.ca c.cs.length c.cc] 64))
  clear h
  obtain ⟨la, lc, ls, ra, rc, rs, ca, cc, cs⟩ := c
  simp only at e f0 f1 f2 f3 hi
  subst e
  unfold Cfg.val rHost
  simp only
  generalize rAt rs i = x at f0 f1 f2 f3 ⊢
  obtain ⟨li, ho, pa, cl⟩ := x
  simp only at f0 f1 f2 f3 ⊢
  have B := boxed w (.cells #[.slice la ls.length lc, .slice (some ad) rs.length rc, .slice ca cs.length cc] 64)
  obtain ⟨b, hb⟩ : ∃ b, patternB ho = b := ⟨_, rfl⟩
  have hn := pattern_is ho
  rw [hb] at hn ⊢
  go_enter Try.func51, Try.ntmps51
  go_wp2_with (first | (go_at_call 63; ((with_reducible refine (hn _).mono ?_); rintro e wx ⟨rfl, kk⟩; replace B := below_next B kk; clear kk))| (go_at_call 59; ((with_reducible refine (unless_is _ _ _).mono ?_); rintro e wx ⟨rfl, rfl⟩)))
  go_ret
  exact ⟨rfl, B⟩

theorem pathAsk_is (c : Cfg) (i : Nat) (w : World) (h : CfgIn w w.heap.size c) (hi : i < c.rs.length) :
    Calls Try.prog 52 #[c.val, .int .i64 i] w (TellsI w (rPath c.rs i)) := by
  obtain ⟨ad, e, f0, f1, f2, f3⟩ := h.routeAt hi (boxed w (.cells #[.slice c.la c.ls.length c.lc, .slice c.ra c.rs.length c.rc, .slice c.ca c.cs.length c.cc] 64))
  clear h
  obtain ⟨la, lc, ls, ra, rc, rs, ca, cc, cs⟩ := c
  simp only at e f0 f1 f2 f3 hi
  subst e
  unfold Cfg.val rPath
  simp only
  generalize rAt rs i = x at f0 f1 f2 f3 ⊢
  obtain ⟨li, ho, pa, cl⟩ := x
  simp only at f0 f1 f2 f3 ⊢
  have B := boxed w (.cells #[.slice la ls.length lc, .slice (some ad) rs.length rc, .slice ca cs.length cc] 64)
  obtain ⟨b, hb⟩ : ∃ b, pathB pa = b := ⟨_, rfl⟩
  have hn := path_is pa
  rw [hb] at hn ⊢
  go_enter Try.func52, Try.ntmps52
  go_wp2_with (first | (go_at_call 64; ((with_reducible refine (hn _).mono ?_); rintro e wx ⟨rfl, kk⟩; replace B := below_next B kk; clear kk))| (go_at_call 59; ((with_reducible refine (unless_is _ _ _).mono ?_); rintro e wx ⟨rfl, rfl⟩)))
  go_ret
  exact ⟨rfl, B⟩

theorem listenName_is (c : Cfg) (i : Nat) (w : World) (h : CfgIn w w.heap.size c) (hi : i < c.ls.length) :
    Calls Try.prog 43 #[c.val, .int .i64 i] w (TellsI w (lName c.ls i)) := by
  obtain ⟨ad, e, f0⟩ := h.listenAt hi (boxed w (.cells #[.slice c.la c.ls.length c.lc, .slice c.ra c.rs.length c.rc, .slice c.ca c.cs.length c.cc] 64))
  clear h
  obtain ⟨la, lc, ls, ra, rc, rs, ca, cc, cs⟩ := c
  simp only at e f0 hi
  subst e
  unfold Cfg.val lName
  simp only
  generalize lAt ls i = nm at f0 ⊢
  have B := boxed w (.cells #[.slice (some ad) ls.length lc, .slice ra rs.length rc, .slice ca cs.length cc] 64)
  obtain ⟨b, hb⟩ : ∃ b, nameB nm = b := ⟨_, rfl⟩
  have hn := name_is nm
  rw [hb] at hn ⊢
  go_enter Try.func43, Try.ntmps43
  go_wp2_with (first | (go_at_call 60; ((with_reducible refine (hn _).mono ?_); rintro e wx ⟨rfl, kk⟩; replace B := below_next B kk; clear kk))| (go_at_call 59; ((with_reducible refine (unless_is _ _ _).mono ?_); rintro e wx ⟨rfl, rfl⟩)))
  go_ret
  exact ⟨rfl, B⟩
end Go.Proofs.Ytmjdamcbdclgpaa

/- Searches in a list: of a text, of a part of a configuration. -/
namespace Go.Proofs.Ytmjdamcbdclgpaa
open Go.RowKit
set_option linter.unusedVariables false
set_option linter.unusedSimpArgs false
set_option maxRecDepth 100000

/-- The call answers a number that is not negative just if b. -/
def FoundI (w : World) (b : Bool) (e : Ending) (w' : World) : Prop := ∃ r : Int, e = .returned (.int .i64 r) ∧ decide (0 ≤ r) = b ∧ decide (r < 0) = (!b) ∧ Below w.heap.size w w'
theorem found_yes {w w' : World} {n : Nat} (h : Below w.heap.size w w') : FoundI w true (.returned (.int .i64 n)) w' := ⟨n, rfl, decide_eq_true (by omega), decide_eq_false (by omega), h⟩
theorem found_no {w w' : World} (h : Below w.heap.size w w') : FoundI w false (.returned (.int .i64 (-1))) w' := ⟨-1, rfl, rfl, rfl, h⟩

/-- The call answers so, and leaves the world alone. -/
def FoundS (w : World) (b : Bool) (e : Ending) (w' : World) : Prop := ∃ r : Int, e = .returned (.int .i64 r) ∧ decide (0 ≤ r) = b ∧ decide (r < 0) = (!b) ∧ w = w'
theorem foundS_yes {w : World} {n : Nat} {b : Bool} (h : b = true) : FoundS w b (.returned (.int .i64 n)) w := ⟨n, rfl, by rw [h]; exact decide_eq_true (by omega), by rw [h]; exact decide_eq_false (by omega), rfl⟩
theorem foundS_no {w : World} {b : Bool} (h : b = false) : FoundS w b (.returned (.int .i64 (-1))) w := ⟨-1, rfl, by rw [h]; rfl, by rw [h]; rfl, rfl⟩

theorem index_is (A : Option Addr) (c B : Nat) (xs : List ByteArray) (s : ByteArray) (w : World) (hr : Reads w B A (xs.map Value.string)) (hl : xs.length ≤ c) (hm : c ≤ maxLen) :
    Calls Try.prog 73 #[.slice A xs.length c, .string s] w (FoundS w (hasL xs s)) := by
  unfold maxLen at hm
  go_enter Try.func73, Try.ntmps73
  go_wp2
  go_loop [8] (fun i => ∃ k : Nat, k ≤ xs.length ∧ i = .int .i64 k ∧ ((xs.take k).any fun x => eqB s x) = false) (fun i => xs.length - (intOf i).toNat)
  case atStart => exact ⟨0, Nat.zero_le _, rfl, rfl⟩
  case round =>
    obtain ⟨k, hk, rfl, hno⟩ := hrel
    have HN := Lib.hid hno
    clear hno
    by_cases hlt : k < xs.length
    · obtain ⟨ad, rfl, hb, hc⟩ := hr.str hlt
      obtain ⟨b, hb⟩ : ∃ b, (s.toList == xs[k].toList) = b := ⟨_, rfl⟩
      have HB := Lib.hid hb
      generalize xs[k] = x at hc hb
      cases b with
      | true =>
        go_wp2
        go_ret
        exact foundS_yes (any_hit hlt HB.out)
      | false =>
        go_wp2
        go_round
        case rel => exact ⟨k + 1, by omega, by go_num, by rw [any_next hlt, HN.out, Bool.false_or]; exact HB.out⟩
        case measure => simp [intOf]; omega
    · go_wp2
      go_ret
      exact foundS_no (any_end hlt HN.out)

theorem contains_is (A : Option Addr) (c B : Nat) (xs : List ByteArray) (s : ByteArray) (w : World) (hr : Reads w B A (xs.map Value.string)) (hl : xs.length ≤ c) (hm : c ≤ maxLen) :
    Calls Try.prog 61 #[.slice A xs.length c, .string s] w fun e w' => e = .returned (.bool (hasL xs s)) ∧ w = w' := by
  have hi := index_is A c B xs s w hr hl hm
  generalize hasL xs s = b at hi ⊢
  clear hr
  go_enter Try.func61, Try.ntmps61
  go_wp2_with fail
  refine hi.mono ?_
  rintro e w' ⟨r, rfl, h1, h2, rfl⟩
  go_wp2
  go_ret
  exact ⟨rfl, rfl⟩

theorem named1_is (x : Cl) (s : ByteArray) (p : Nat) (w : World) (hp : p < w.heap.size) (hc : w.cell? ⟨p, 0, none⟩ = some (.string s)) :
    Calls Try.prog 75 #[.agg #[.string x.name, .int .i64 x.policy, .int .i64 x.slots, .slice x.ha x.hn x.hc], .pointer (some ⟨p, 0, none⟩)] w (Says w (eqB x.name s)) := by
  obtain ⟨nm, pol, sl, ha, hn, hcc⟩ := x
  have B := boxed w (.cells #[.string nm, .int .i64 pol, .int .i64 sl, .slice ha hn hcc] 72)
  have h1 := (B.cell (p := ⟨p, 0, none⟩) hp).trans hc
  unfold eqB
  obtain ⟨b, hb⟩ : ∃ b, (nm.toList == s.toList) = b := ⟨_, rfl⟩
  simp only at hb ⊢
  rw [hb]
  go_enter Try.func75, Try.ntmps75
  go_wp2
  go_ret
  exact ⟨rfl, B⟩

theorem alike_is (x r : Rt) (p : Nat) (w : World) (hp : p < w.heap.size) (hc : Four w ⟨p, 0, none⟩ (.string r.listen) (.string r.host) (.string r.path) (.string r.cluster)) :
    Calls Try.prog 65 #[.agg #[.string x.listen, .string x.host, .string x.path, .string x.cluster], .pointer (some ⟨p, 0, none⟩)] w (Says w (alikeB x r)) := by
  obtain ⟨xl, xh, xp, xc⟩ := x
  obtain ⟨rl, rh, rp, rc⟩ := r
  have B := boxed w (.cells #[.string xl, .string xh, .string xp, .string xc] 74)
  obtain ⟨h0, h1, h2, h3⟩ := hc
  replace h0 := (B.cell (p := ⟨p, 0, none⟩) hp).trans h0
  replace h1 := (B.cell (p := ⟨p, 1, none⟩) hp).trans h1
  replace h2 := (B.cell (p := ⟨p, 2, none⟩) hp).trans h2
  clear h3
  unfold alikeB eqB
  simp only at h0 h1 h2 ⊢
  obtain ⟨b1, hb1⟩ : ∃ b, (xl.toList == rl.toList) = b := ⟨_, rfl⟩
  obtain ⟨b2, hb2⟩ : ∃ b, (xh.toList == rh.toList) = b := ⟨_, rfl⟩
  obtain ⟨b3, hb3⟩ : ∃ b, (xp.toList == rp.toList) = b := ⟨_, rfl⟩
  rw [hb1, hb2, hb3]
  cases b1 <;> cases b2 <;> cases b3
  all_goals
    go_enter Try.func65, Try.ntmps65
    go_wp2
    go_ret
    exact ⟨rfl, B⟩
end Go.Proofs.Ytmjdamcbdclgpaa

/- The document's searches: Listen, Cluster. -/
namespace Go.Proofs.Ytmjdamcbdclgpaa
open Go.RowKit
set_option linter.unusedVariables false
set_option linter.unusedSimpArgs false
set_option maxRecDepth 100000

theorem eqB_comm (a b : ByteArray) : eqB a b = eqB b a := by
  unfold eqB
  rw [Bool.eq_iff_iff, beq_iff_eq, beq_iff_eq]
  exact eq_comm
theorem hasL_comm (ls : List ByteArray) (s : ByteArray) : (ls.any fun x => eqB x s) = hasL ls s := by
  unfold hasL
  congr 1
  funext x
  exact eqB_comm x s

theorem rListen_is (A : Option Addr) (c B : Nat) (xs : List ByteArray) (s : ByteArray) (w : World) (hr : Reads w B A (xs.map Value.string)) (hl : xs.length ≤ c) (hm : c ≤ maxLen) :
    Calls Try.prog 41 #[.slice A xs.length c, .string s] w (FoundS w (hasL xs s)) := by
  unfold maxLen at hm
  rw [← hasL_comm]
  go_enter Try.func41, Try.ntmps41
  go_wp2
  go_loop [5] (fun i => ∃ k : Nat, k ≤ xs.length ∧ i = .int .i64 k ∧ ((xs.take k).any fun x => eqB x s) = false) (fun i => xs.length - (intOf i).toNat)
  case atStart => exact ⟨0, Nat.zero_le _, rfl, rfl⟩
  case round =>
    obtain ⟨k, hk, rfl, hno⟩ := hrel
    have HN := Lib.hid hno
    clear hno
    by_cases hlt : k < xs.length
    · obtain ⟨ad, rfl, hb, hc⟩ := hr.str hlt
      obtain ⟨b, hb⟩ : ∃ b, (xs[k].toList == s.toList) = b := ⟨_, rfl⟩
      have HB := Lib.hid hb
      generalize xs[k] = x at hc hb
      cases b with
      | true =>
        go_wp2
        go_ret
        exact foundS_yes (any_hit hlt HB.out)
      | false =>
        go_wp2
        go_round
        case rel => exact ⟨k + 1, by omega, by go_num, by rw [any_next hlt, HN.out, Bool.false_or]; exact HB.out⟩
        case measure => simp [intOf]; omega
    · go_wp2
      go_ret
      exact foundS_no (any_end hlt HN.out)

theorem rCluster_is (A : Option Addr) (c B : Nat) (xs : List Cl) (s : ByteArray) (w : World) (hr : Rows4 w B A (xs.map Cl.cells)) (hl : xs.length ≤ c) (hm : c ≤ maxLen) :
    Calls Try.prog 58 #[.slice A xs.length c, .string s] w (FoundS w (hasC xs s)) := by
  unfold maxLen at hm
  go_enter Try.func58, Try.ntmps58
  go_wp2
  go_loop [5] (fun i => ∃ k : Nat, k ≤ xs.length ∧ i = .int .i64 k ∧ ((xs.take k).any fun x => eqB x.name s) = false) (fun i => xs.length - (intOf i).toNat)
  case atStart => exact ⟨0, Nat.zero_le _, rfl, rfl⟩
  case round =>
    obtain ⟨k, hk, rfl, hno⟩ := hrel
    have HN := Lib.hid hno
    clear hno
    by_cases hlt : k < xs.length
    · obtain ⟨ad, rfl, hb, hcell⟩ := hr (by rw [List.length_map]; omega)
      obtain ⟨f0, f1, f2, f3⟩ := four_of (hcell k xs[k].cells (by rw [List.getElem?_map, List.getElem?_eq_getElem hlt]; rfl)) rfl
      clear hcell f1 f2 f3
      obtain ⟨b, hb⟩ : ∃ b, (xs[k].name.toList == s.toList) = b := ⟨_, rfl⟩
      have HB := Lib.hid hb
      generalize xs[k].name = x at f0 hb
      cases b with
      | true =>
        go_wp2
        go_ret
        exact foundS_yes (any_hit hlt HB.out)
      | false =>
        go_wp2
        go_round
        case rel => exact ⟨k + 1, by omega, by go_num, by rw [any_next hlt, HN.out, Bool.false_or]; exact HB.out⟩
        case measure => simp [intOf]; omega
    · go_wp2
      go_ret
      exact foundS_no (any_end hlt HN.out)
end Go.Proofs.Ytmjdamcbdclgpaa
