/- Searches in a list: of a text, of a part of a configuration. -/
import Derived.Test.YtlaibkinkopkiaaCask
import Derived.LoopTactic
namespace Go.Proofs.Ytlaibkinkopkiaa
open Go.RowKit
set_option linter.unusedVariables false
set_option linter.unusedSimpArgs false
set_option maxRecDepth 100000

/-- The call answers a number that is not negative just if b. -/
def FoundI (w : World) (b : Bool) (e : Ending) (w' : World) : Prop := ∃ r : Int, e = .returned (.int .i64 r) ∧ decide (0 ≤ r) = b ∧ decide (r < 0) = (!b) ∧ Below w.heap.size w w'
theorem found_yes {w w' : World} {n : Nat} (h : Below w.heap.size w w') : FoundI w true (.returned (.int .i64 n)) w' := ⟨n, rfl, decide_eq_true (by omega), decide_eq_false (by omega), h⟩
theorem found_no {w w' : World} (h : Below w.heap.size w w') : FoundI w false (.returned (.int .i64 (-1))) w' := ⟨-1, rfl, rfl, rfl, h⟩

/-- The call answers so, and leaves the world alone. -/
def FoundS (w : World) (b : Bool) (e : Ending) (w' : World) : Prop := ∃ r : Int, e = .returned (.int .i64 r) ∧ decide (0 ≤ r) = b ∧ decide (r < 0) = (!b) ∧ w = w'
theorem foundS_yes {w : World} {n : Nat} {b : Bool} (h : b = true) : FoundS w b (.returned (.int .i64 n)) w := ⟨n, rfl, by rw [h]; exact decide_eq_true (by omega), by rw [h]; exact decide_eq_false (by omega), rfl⟩
theorem foundS_no {w : World} {b : Bool} (h : b = false) : FoundS w b (.returned (.int .i64 (-1))) w := ⟨-1, rfl, by rw [h]; rfl, by rw [h]; rfl, rfl⟩

theorem index_is (A : Option Addr) (c B : Nat) (xs : List ByteArray) (s : ByteArray) (w : World) (hr : Reads w B A (xs.map Value.string)) (hl : xs.length ≤ c) (hm : c ≤ maxLen) :
    Calls Try.prog 58 #[.slice A xs.length c, .string s] w (FoundS w (hasL xs s)) := by
  unfold maxLen at hm
  go_enter Try.func58, Try.ntmps58
  go_wp2
  go_loop [8] (fun i => ∃ k : Nat, k ≤ xs.length ∧ i = .int .i64 k ∧ ((xs.take k).any fun x => eqB s x) = false) (fun i => xs.length - (intOf i).toNat)
  case atStart => exact ⟨0, Nat.zero_le _, rfl, rfl⟩
  case round =>
    obtain ⟨k, hk, rfl, hno⟩ := hrel
    have HN := Lib.hid hno
    clear hno
    by_cases hlt : k < xs.length
    · obtain ⟨ad, rfl, hb, hc⟩ := hr.str hlt
      obtain ⟨b, hb⟩ : ∃ b, (s.toList == xs[k].toList) = b := ⟨_, rfl⟩
      have HB := Lib.hid hb
      generalize xs[k] = x at hc hb
      cases b with
      | true =>
        go_wp2
        go_ret
        exact foundS_yes (any_hit hlt HB.out)
      | false =>
        go_wp2
        go_round
        case rel => exact ⟨k + 1, by omega, by go_num, by rw [any_next hlt, HN.out, Bool.false_or]; exact HB.out⟩
        case measure => simp [intOf]; omega
    · go_wp2
      go_ret
      exact foundS_no (any_end hlt HN.out)

theorem contains_is (A : Option Addr) (c B : Nat) (xs : List ByteArray) (s : ByteArray) (w : World) (hr : Reads w B A (xs.map Value.string)) (hl : xs.length ≤ c) (hm : c ≤ maxLen) :
    Calls Try.prog 49 #[.slice A xs.length c, .string s] w fun e w' => e = .returned (.bool (hasL xs s)) ∧ w = w' := by
  have hi := index_is A c B xs s w hr hl hm
  generalize hasL xs s = b at hi ⊢
  clear hr
  go_enter Try.func49, Try.ntmps49
  go_wp2_with fail
  refine hi.mono ?_
  rintro e w' ⟨r, rfl, h1, h2, rfl⟩
  go_wp2
  go_ret
  exact ⟨rfl, rfl⟩

theorem named1_is (x : Cl) (s : ByteArray) (p : Nat) (w : World) (hp : p < w.heap.size) (hc : w.cell? ⟨p, 0, none⟩ = some (.string s)) :
    Calls Try.prog 60 #[.agg #[.string x.name, .int .i64 x.policy, .int .i64 x.slots, .slice x.ha x.hn x.hc], .pointer (some ⟨p, 0, none⟩)] w (Says w (eqB x.name s)) := by
  obtain ⟨nm, pol, sl, ha, hn, hcc⟩ := x
  have B := boxed w (.cells #[.string nm, .int .i64 pol, .int .i64 sl, .slice ha hn hcc] 34)
  have h1 := (B.cell (p := ⟨p, 0, none⟩) hp).trans hc
  unfold eqB
  obtain ⟨b, hb⟩ : ∃ b, (nm.toList == s.toList) = b := ⟨_, rfl⟩
  simp only at hb ⊢
  rw [hb]
  go_enter Try.func60, Try.ntmps60
  go_wp2
  go_ret
  exact ⟨rfl, B⟩

theorem alike_is (x r : Rt) (p : Nat) (w : World) (hp : p < w.heap.size) (hc : Four w ⟨p, 0, none⟩ (.string r.listen) (.string r.host) (.string r.path) (.string r.cluster)) :
    Calls Try.prog 51 #[.agg #[.string x.listen, .string x.host, .string x.path, .string x.cluster], .pointer (some ⟨p, 0, none⟩)] w (Says w (alikeB x r)) := by
  obtain ⟨xl, xh, xp, xc⟩ := x
  obtain ⟨rl, rh, rp, rc⟩ := r
  have B := boxed w (.cells #[.string xl, .string xh, .string xp, .string xc] 36)
  obtain ⟨h0, h1, h2, h3⟩ := hc
  replace h0 := (B.cell (p := ⟨p, 0, none⟩) hp).trans h0
  replace h1 := (B.cell (p := ⟨p, 1, none⟩) hp).trans h1
  replace h2 := (B.cell (p := ⟨p, 2, none⟩) hp).trans h2
  clear h3
  unfold alikeB eqB
  simp only at h0 h1 h2 ⊢
  obtain ⟨b1, hb1⟩ : ∃ b, (xl.toList == rl.toList) = b := ⟨_, rfl⟩
  obtain ⟨b2, hb2⟩ : ∃ b, (xh.toList == rh.toList) = b := ⟨_, rfl⟩
  obtain ⟨b3, hb3⟩ : ∃ b, (xp.toList == rp.toList) = b := ⟨_, rfl⟩
  rw [hb1, hb2, hb3]
  cases b1 <;> cases b2 <;> cases b3
  all_goals
    go_enter Try.func51, Try.ntmps51
    go_wp2
    go_ret
    exact ⟨rfl, B⟩
end Go.Proofs.Ytlaibkinkopkiaa
