/- Too much to be looked at: the document's Big, and the law's long. -/
import Derived.Test.YtnjacobimndnbaaRin
import Derived.LoopTactic
namespace Go.Proofs.Ytnjacobimndnbaa
open Go.RowKit
set_option linter.unusedVariables false
set_option linter.unusedSimpArgs false
set_option maxRecDepth 100000

def wideB (r : Rl) : Bool := decide (100 < (r.host.size : Int)) || decide (100 < (r.path.size : Int))
def bigRl (l : List Rl) : Bool := decide (50 < (l.length : Int)) || l.any wideB
def longB (l : List Rl) (h p : ByteArray) : Bool := bigRl l || decide (100 < (h.size : Int)) || decide (100 < (p.size : Int))
theorem wide_no {r : Rl} (h : wideB r = false) : r.host.size ≤ 100 ∧ r.path.size ≤ 100 := by
  unfold wideB at h
  simp only [Bool.or_eq_false_iff, decide_eq_false_iff_not] at h
  omega
theorem long_no {l : List Rl} {h p : ByteArray} (hl : longB l h p = false) : l.length ≤ 50 ∧ h.size ≤ 100 ∧ p.size ≤ 100 ∧ ∀ r ∈ l, r.host.size ≤ 100 ∧ r.path.size ≤ 100 := by
  unfold longB bigRl at hl
  simp only [Bool.or_eq_false_iff, decide_eq_false_iff_not] at hl
  obtain ⟨⟨⟨h1, h2⟩, h3⟩, h4⟩ := hl
  refine ⟨by omega, by omega, by omega, fun r hr => wide_no ?_⟩
  rw [List.any_eq_false] at h2
  simpa using h2 r hr

set_option maxHeartbeats 1000000 in
theorem rbig_is (A : Option Addr) (c : Nat) (l : List Rl) (w : World) (hin : RulesIn w w.heap.size A c l) : Calls Try.prog 15 #[.slice A l.length c] w fun e w' => e = .returned (.bool (bigRl l)) ∧ w = w' := by
  have hm : l.length ≤ 9223372036854775807 := hin.len
  have HIN := Lib.hid hin
  clear hin
  by_cases h50 : 50 < l.length
  · have e : bigRl l = true := by rw [bigRl, decide_eq_true (by omega)]; rfl
    have g1 : decide (50 < (l.length : Int)) = true := decide_eq_true (by omega)
    have g2 : decide ((l.length : Int) ≤ 50) = false := decide_eq_false (by omega)
    have g3 : decide (0 < l.length) = true := decide_eq_true (by omega)
    rw [e]
    have H50 := Lib.hid h50
    clear e h50
    go_enter Try.func15, Try.ntmps15
    go_wp2
    go_loop [3] (fun i => i = .int .i64 0) (fun i => 0)
    case atStart => rfl
    case round =>
      subst hrel
      go_wp2
      go_ret
      exact ⟨rfl, rfl⟩
  · have g2 : decide ((l.length : Int) ≤ 50) = true := decide_eq_true (by omega)
    have g1 : decide (50 < (l.length : Int)) = false := decide_eq_false (by omega)
    have e : bigRl l = l.any wideB := by rw [bigRl, g1]; rfl
    rw [e]
    have H50 := Lib.hid h50
    clear e h50
    go_enter Try.func15, Try.ntmps15
    go_wp2
    go_loop [3] (fun i => ∃ k : Nat, k ≤ l.length ∧ i = .int .i64 k ∧ (l.take k).any wideB = false) (fun i => l.length - (intOf i).toNat)
    case atStart => exact ⟨0, Nat.zero_le _, rfl, rfl⟩
    case round =>
      obtain ⟨k, hk, rfl, hno⟩ := hrel
      have HN := Lib.hid hno
      clear hno
      by_cases hlt : k < l.length
      · obtain ⟨ad, e, _⟩ := HIN.out.ad hlt
        subst e
        obtain ⟨f0, f1, f2, f3⟩ := HIN.out.at_ (W := w) hlt (fun _ _ => rfl)
        clear f0 f3
        obtain ⟨b1, hb1⟩ : ∃ b, decide (100 < (l[k].host.size : Int)) = b := ⟨_, rfl⟩
        obtain ⟨b2, hb2⟩ : ∃ b, decide (100 < (l[k].path.size : Int)) = b := ⟨_, rfl⟩
        have HX : Hid (wideB l[k] = (b1 || b2)) := Lib.hid (by rw [wideB, hb1, hb2])
        generalize l[k].host = ho at f1 hb1
        generalize l[k].path = pa at f2 hb2
        cases b1 <;> cases b2
        case false.false =>
          go_wp2
          go_round
          case rel => exact ⟨k + 1, by omega, by go_num, by rw [any_next hlt, HN.out, Bool.false_or]; exact HX.out⟩
          case measure => simp [intOf]; omega
        all_goals
          go_wp2
          go_ret
          rw [any_hit hlt HX.out]
          exact ⟨rfl, rfl⟩
      · have HL := Lib.hid (any_end hlt HN.out)
        go_wp2
        go_ret
        rw [HL.out]
        exact ⟨rfl, rfl⟩

theorem long_is (A : Option Addr) (c : Nat) (l : List Rl) (h p : ByteArray) (w : World) (hin : RulesIn w w.heap.size A c l) : Calls Try.prog 8 #[.slice A l.length c, .string h, .string p] w fun e w' => e = .returned (.bool (longB l h p)) ∧ w = w' := by
  have hb := rbig_is A c l w hin
  clear hin
  unfold longB
  generalize bigRl l = b at hb ⊢
  obtain ⟨b1, hb1⟩ : ∃ b, decide (100 < (h.size : Int)) = b := ⟨_, rfl⟩
  obtain ⟨b2, hb2⟩ : ∃ b, decide (100 < (p.size : Int)) = b := ⟨_, rfl⟩
  rw [hb1, hb2]
  cases b <;> cases b1 <;> cases b2
  all_goals
    go_enter Try.func8, Try.ntmps8
    go_wp2_with (go_at_call 15; ((with_reducible refine hb.mono ?_); rintro e wx ⟨rfl, rfl⟩))
    go_ret
    exact ⟨rfl, rfl⟩
end Go.Proofs.Ytnjacobimndnbaa
