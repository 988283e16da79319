/- (names.text).has at one kind of texts. -/
import Derived.Test.YtmjdamcbdclgpaaNbyte
import Derived.RegionTactic
import Derived.BigQuiet
import Derived.Deep.QuietTactic
import Derived.IntWalk
namespace Go.Proofs.Ytmjdamcbdclgpaa
open Go.RowKit
set_option linter.unusedVariables false
set_option linter.unusedSimpArgs false
set_option maxRecDepth 100000

def argsN (s : ByteArray) : Array Value := #[.agg #[.int .i64 16, .func (.func 70) #[] #[], .func (.func 71) #[] #[]], .string s]
def boxN (w : World) : World := w.alloc (.cells #[.int .i64 16, .func (.func 70) #[] #[], .func (.func 71) #[] #[]] 90)
theorem boxN_below (w : World) : Below w.heap.size w (boxN w) := (Below.refl _ _).alloc (Nat.le_refl _) _

theorem hasN_empty (s : ByteArray) (w : World) (h : s.size = 0) :
    Calls Try.prog 72 (argsN s) w (Says w false) := by
  unfold argsN
  have h1 : ((s.size : Int) == 0) = true := by simp [h]
  have H := Lib.hid h
  clear h
  go_enter Try.func72, Try.ntmps72
  go_wp2
  go_quiet (fail)
  go_wp2
  go_ret
  exact ⟨rfl, below_drewN (boxN_below w) _⟩

theorem hasN_long (s : ByteArray) (w : World) (h : 16 < s.size) :
    Calls Try.prog 72 (argsN s) w (Says w false) := by
  unfold argsN
  have h1 : ((s.size : Int) == 0) = false := by rw [beq_eq_false_iff_ne]; omega
  have h2 : decide ((16 : Int) < (s.size : Int)) = true := by simp; omega
  go_enter Try.func72, Try.ntmps72
  go_wp2
  go_quiet (fail)
  go_wp2
  go_ret
  exact ⟨rfl, below_drewN (boxN_below w) _⟩

theorem hasN_first (s : ByteArray) (w : World) (h : 0 < s.size) (hM : s.size ≤ 16) (hf : lowI (s[0].toNat : Int) = false) :
    Calls Try.prog 72 (argsN s) w (Says w false) := by
  unfold argsN
  have h1 : ((s.size : Int) == 0) = false := by rw [beq_eq_false_iff_ne]; omega
  have h2 : decide ((16 : Int) < (s.size : Int)) = false := by simp; omega
  have hc := fun w => isLetter_is (s[0].toNat : Int) w (by omega) (by have := s[0].toNat_lt; omega)
  rw [hf] at hc
  have HF := Lib.hid hf
  clear hf
  go_enter Try.func72, Try.ntmps72
  go_wp2
  go_quiet ((go_at_call 70; exact still0 hc))
  go_wp2
  go_ret
  exact ⟨rfl, below_drewN (boxN_below w) _⟩

/-- What the loop has seen: the bytes ahead of place k, but the first, may stand there. -/
def seenN (s : ByteArray) (w : World) (i : Value) (wr : World) : Prop :=
  ∃ k : Nat, k + 1 ≤ s.size ∧ i = .int .i64 k ∧ (∀ j (hj : j < s.size), 0 < j → j < k + 1 → wordI (s[j].toNat : Int) = true) ∧ ∃ n, wr = (boxN w).drewN n

theorem hasN_runs (s : ByteArray) (w : World) (h : 0 < s.size) (hM : s.size ≤ 16) (hf : lowI (s[0].toNat : Int) = true) :
    Calls Try.prog 72 (argsN s) w (Says w (nameB s)) := by
  unfold argsN
  have h1 : ((s.size : Int) == 0) = false := by rw [beq_eq_false_iff_ne]; omega
  have h2 : decide ((16 : Int) < (s.size : Int)) = false := by simp; omega
  have hc := fun w => isLetter_is (s[0].toNat : Int) w (by omega) (by have := s[0].toNat_lt; omega)
  rw [hf] at hc
  have HF := Lib.hid hf
  clear hf
  go_enter Try.func72, Try.ntmps72
  go_wp2
  go_quiet ((go_at_call 70; exact still0 hc))
  clear hc h1 h2
  go_wp2
  go_loopw [27] (fun i wr => seenN s w i wr) (fun i _ => s.size - (intOf i).toNat)
  case atStart => exact ⟨0, by omega, rfl, fun j _ h0 h1 => by omega, _, rfl⟩
  case round =>
    obtain ⟨k, hk, rfl, hseen, n, rfl⟩ := hrel
    have HS := Lib.hid hseen
    clear hseen
    unfold boxN
    by_cases hlt : k + 1 < s.size
    · have hcg := fun w => isNameByte_is (s[k + 1].toNat : Int) w (by omega) (by have := s[k + 1].toNat_lt; omega)
      obtain ⟨b, hb⟩ : ∃ b, wordI (s[k + 1].toNat : Int) = b := ⟨_, rfl⟩
      rw [hb] at hcg
      have HB := Lib.hid hb
      clear hb
      have x1 : IntKind.i64.wrap ((k : Int) + 1) = (k : Int) + 1 := IntWalk.i64_in _ (by omega)
      have x2 : 0 ≤ (k : Int) + 1 := by omega
      have x3 : ((k : Int) + 1).toNat = k + 1 := by omega
      have x4 : (k : Int) + 1 < (s.size : Int) := by omega
      cases b with
      | false =>
        go_wp2
        go_quiet ((go_at_call 71; exact still1 hcg))
        generalize s[k + 1].toNat = z
        clear x1 x2 x3 x4
        go_wp2
        go_ret
        exact ⟨ret_bool (kindB_next hlt (by omega) HB.out).symm, below_drewN (below_drewN (boxN_below w) _) _⟩
      | true =>
        go_wp2
        go_quiet ((go_at_call 71; exact still1 hcg))
        generalize s[k + 1].toNat = z
        clear x1 x2 x3 x4
        go_wp2
        go_roundw
        case rel => exact ⟨k + 1, by omega, by go_num, fun j hj h0 h1 => by
          by_cases e : j = k + 1
          · subst e; exact HB.out
          · exact HS.out j hj h0 (by omega), n + nq, (World.drewN_drewN ..).symm ▸ rfl⟩
        case measure => simp [intOf]; omega
    · go_wp2
      go_ret
      exact ⟨ret_bool (kindB_yes h hM HF.out fun j hj h0 => HS.out j hj h0 (by omega)).symm, below_drewN (boxN_below w) _⟩

theorem hasN_is (s : ByteArray) (w : World) : Calls Try.prog 72 (argsN s) w (Says w (nameB s)) := by
  by_cases h0 : s.size = 0
  · exact (hasN_empty s w h0).mono fun _ _ h => h.of (kindB_empty h0).symm
  · by_cases h1 : 16 < s.size
    · exact (hasN_long s w h1).mono fun _ _ h => h.of (kindB_long h1).symm
    · have h2 : 0 < s.size := by omega
      rcases hf : lowI (s[0].toNat : Int) with _ | _
      · exact (hasN_first s w h2 (by omega) hf).mono fun _ _ h => h.of (kindB_first h2 hf).symm
      · exact hasN_runs s w h2 (by omega) hf

theorem name_is (s : ByteArray) (w : World) : Calls Try.prog 60 #[.string s] w (Says w (nameB s)) := by
  go_enter Try.func60, Try.ntmps60
  go_wp2_with fail
  refine (hasN_is _ _).mono ?_
  rintro e w1 ⟨rfl, hb⟩
  go_wp2_with fail
  go_ret
  exact ⟨rfl, hb⟩
end Go.Proofs.Ytmjdamcbdclgpaa
