/- Beginnings and ends of texts: what package strings says of them, at any two texts. -/
import Derived.Test.YtnjacobimndnbaaNstar
namespace Go.Proofs.Ytnjacobimndnbaa
open Go.RowKit
set_option linter.unusedVariables false
set_option linter.unusedSimpArgs false
set_option maxRecDepth 100000

def preB (s p : ByteArray) : Bool := decide (p.size ≤ s.size) && ((s.extract 0 p.size).toList == p.toList)
def sufB (s p : ByteArray) : Bool := decide (p.size ≤ s.size) && ((s.extract (s.size - p.size) s.size).toList == p.toList)
def cutB (s p : ByteArray) : ByteArray := bif preB s p then s.extract p.size s.size else s

theorem pre_size {s p : ByteArray} (h : preB s p = true) : p.size ≤ s.size := by
  unfold preB at h
  rw [Bool.and_eq_true] at h
  exact of_decide_eq_true h.1

theorem preLite_is (s p : ByteArray) (w : World) : Calls Try.prog 47 #[.string s, .string p] w fun e w' => e = .returned (.bool (preB s p)) ∧ w = w' := by
  by_cases h : p.size ≤ s.size
  · have h1 : decide (p.size ≤ s.size) = true := decide_eq_true h
    unfold preB
    rw [h1, Bool.true_and]
    obtain ⟨t, ht⟩ : ∃ t, s.extract 0 p.size = t := ⟨_, rfl⟩
    rw [ht]
    go_enter Try.func47, Try.ntmps47
    go_wp2
    go_ret
    exact ⟨rfl, rfl⟩
  · have h1 : decide (p.size ≤ s.size) = false := decide_eq_false h
    unfold preB
    rw [h1, Bool.false_and]
    go_enter Try.func47, Try.ntmps47
    go_wp2
    go_ret
    exact ⟨rfl, rfl⟩

theorem pre_is (s p : ByteArray) (w : World) : Calls Try.prog 33 #[.string s, .string p] w fun e w' => e = .returned (.bool (preB s p)) ∧ w = w' := by
  have hp := preLite_is s p w
  generalize preB s p = c at hp ⊢
  go_enter Try.func33, Try.ntmps33
  go_wp2_with fail
  refine hp.mono ?_
  rintro e w' ⟨rfl, rfl⟩
  go_wp2_with fail
  go_ret
  exact ⟨rfl, rfl⟩

theorem sufLite_is (s p : ByteArray) (w : World) (hs : s.size ≤ 2000) : Calls Try.prog 39 #[.string s, .string p] w fun e w' => e = .returned (.bool (sufB s p)) ∧ w = w' := by
  by_cases h : p.size ≤ s.size
  · have h1 : decide (p.size ≤ s.size) = true := decide_eq_true h
    obtain ⟨k, hk⟩ : ∃ k, s.size = p.size + k := ⟨s.size - p.size, by omega⟩
    have e1 : (s.size : Int) - (p.size : Int) = (k : Int) := by omega
    have e2 : s.size - p.size = k := by omega
    have e3 : k ≤ s.size := by omega
    unfold sufB
    rw [h1, Bool.true_and, e2]
    clear hk e2
    obtain ⟨t, ht⟩ : ∃ t, s.extract k s.size = t := ⟨_, rfl⟩
    rw [ht]
    go_enter Try.func39, Try.ntmps39
    go_wp2
    go_ret
    exact ⟨rfl, rfl⟩
  · have h1 : decide (p.size ≤ s.size) = false := decide_eq_false h
    unfold sufB
    rw [h1, Bool.false_and]
    go_enter Try.func39, Try.ntmps39
    go_wp2
    go_ret
    exact ⟨rfl, rfl⟩

theorem suf_is (s p : ByteArray) (w : World) (hs : s.size ≤ 2000) : Calls Try.prog 28 #[.string s, .string p] w fun e w' => e = .returned (.bool (sufB s p)) ∧ w = w' := by
  have hp := sufLite_is s p w hs
  generalize sufB s p = c at hp ⊢
  go_enter Try.func28, Try.ntmps28
  go_wp2_with fail
  refine hp.mono ?_
  rintro e w' ⟨rfl, rfl⟩
  go_wp2_with fail
  go_ret
  exact ⟨rfl, rfl⟩

theorem cutTrimLite_is (s p : ByteArray) (w : World) : Calls Try.prog 51 #[.string s, .string p] w fun e w' => e = .returned (.string (cutB s p)) ∧ w = w' := by
  have hp := preLite_is s p w
  obtain ⟨c, hc⟩ : ∃ c, preB s p = c := ⟨_, rfl⟩
  rw [hc] at hp
  unfold cutB
  rw [hc]
  cases c with
  | true =>
    have h2 := pre_size hc
    clear hc
    go_enter Try.func51, Try.ntmps51
    go_wp2_with fail
    refine hp.mono ?_
    rintro e w' ⟨rfl, rfl⟩
    go_wp2_with fail
    go_ret
    exact ⟨rfl, rfl⟩
  | false =>
    clear hc
    go_enter Try.func51, Try.ntmps51
    go_wp2_with fail
    refine hp.mono ?_
    rintro e w' ⟨rfl, rfl⟩
    go_wp2_with fail
    go_ret
    exact ⟨rfl, rfl⟩

theorem cutTrim_is (s p : ByteArray) (w : World) : Calls Try.prog 40 #[.string s, .string p] w fun e w' => e = .returned (.string (cutB s p)) ∧ w = w' := by
  have hp := cutTrimLite_is s p w
  generalize cutB s p = c at hp ⊢
  go_enter Try.func40, Try.ntmps40
  go_wp2_with fail
  refine hp.mono ?_
  rintro e w' ⟨rfl, rfl⟩
  go_wp2_with fail
  go_ret
  exact ⟨rfl, rfl⟩

theorem cutLite_is (s p : ByteArray) (w : World) : Calls Try.prog 46 #[.string s, .string p] w fun e w' => e = .returned (.tuple #[.string (cutB s p), .bool (preB s p)]) ∧ w = w' := by
  have hp := preLite_is s p w
  obtain ⟨c, hc⟩ : ∃ c, preB s p = c := ⟨_, rfl⟩
  rw [hc] at hp
  unfold cutB
  rw [hc]
  cases c with
  | true =>
    have h2 := pre_size hc
    clear hc
    go_enter Try.func46, Try.ntmps46
    go_wp2_with fail
    refine hp.mono ?_
    rintro e w' ⟨rfl, rfl⟩
    go_wp2_with fail
    go_ret2
    exact ⟨rfl, rfl⟩
  | false =>
    clear hc
    go_enter Try.func46, Try.ntmps46
    go_wp2_with fail
    refine hp.mono ?_
    rintro e w' ⟨rfl, rfl⟩
    go_wp2_with fail
    go_ret2
    exact ⟨rfl, rfl⟩

theorem cut_is (s p : ByteArray) (w : World) : Calls Try.prog 32 #[.string s, .string p] w fun e w' => e = .returned (.tuple #[.string (cutB s p), .bool (preB s p)]) ∧ w = w' := by
  have hp := cutLite_is s p w
  generalize cutB s p = c at hp ⊢
  generalize preB s p = d at hp ⊢
  go_enter Try.func32, Try.ntmps32
  go_wp2_with fail
  refine hp.mono ?_
  rintro e w' ⟨rfl, rfl⟩
  go_wp2_with fail
  go_ret2
  exact ⟨rfl, rfl⟩
end Go.Proofs.Ytnjacobimndnbaa
