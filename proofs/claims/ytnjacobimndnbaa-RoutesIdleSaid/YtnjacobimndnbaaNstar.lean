/- Patterns: what a pattern of a tail is of, and which texts are patterns, by the program and by the document. -/
import Derived.Test.YtnjacobimndnbaaNhost
import Derived.Test.YtnjacobimndnbaaNrhost
namespace Go.Proofs.Ytnjacobimndnbaa
open Go.RowKit
set_option linter.unusedVariables false
set_option linter.unusedSimpArgs false
set_option maxRecDepth 100000

/-- Does a text begin with these two bytes? -/
def tailB (s : ByteArray) : Bool := decide (2 ≤ s.size) && ((s.extract 0 2).toList == [42, 46])
def trimB (s : ByteArray) : ByteArray := bif tailB s then s.extract 2 s.size else s
def patternB (s : ByteArray) : Bool := (s.toList == [42]) || hostB (trimB s)

theorem hasPrefix_is (s : ByteArray) (w : World) : Calls Try.prog 47 #[.string s, .string ⟨#[42, 46]⟩] w fun e w' => e = .returned (.bool (tailB s)) ∧ w = w' := by
  by_cases h : 2 ≤ s.size
  · have h1 : decide ((2 : Int) ≤ (s.size : Int)) = true := by simp; omega
    have h2 : decide (2 ≤ s.size) = true := decide_eq_true h
    unfold tailB
    rw [h2, Bool.true_and]
    clear h2
    obtain ⟨t, ht⟩ : ∃ t, s.extract 0 2 = t := ⟨_, rfl⟩
    rw [ht]
    go_enter Try.func47, Try.ntmps47
    go_wp2
    go_ret
    exact ⟨rfl, rfl⟩
  · have h1 : decide ((2 : Int) ≤ (s.size : Int)) = false := by simp; omega
    have h2 : decide (2 ≤ s.size) = false := decide_eq_false h
    unfold tailB
    rw [h2, Bool.false_and]
    clear h2
    go_enter Try.func47, Try.ntmps47
    go_wp2
    go_ret
    exact ⟨rfl, rfl⟩

theorem tail_size {s : ByteArray} (h : tailB s = true) : 2 ≤ s.size := by
  unfold tailB at h
  rw [Bool.and_eq_true] at h
  exact of_decide_eq_true h.1

theorem trimLite_is (s : ByteArray) (w : World) : Calls Try.prog 51 #[.string s, .string ⟨#[42, 46]⟩] w fun e w' => e = .returned (.string (trimB s)) ∧ w = w' := by
  have hp := hasPrefix_is s w
  obtain ⟨c, hc⟩ : ∃ c, tailB s = c := ⟨_, rfl⟩
  rw [hc] at hp
  unfold trimB
  rw [hc]
  cases c with
  | true =>
    have h2 := tail_size hc
    clear hc
    go_enter Try.func51, Try.ntmps51
    go_wp2_with fail
    refine hp.mono ?_
    rintro e w' ⟨rfl, rfl⟩
    go_wp2_with fail
    go_ret
    exact ⟨rfl, rfl⟩
  | false =>
    clear hc
    go_enter Try.func51, Try.ntmps51
    go_wp2_with fail
    refine hp.mono ?_
    rintro e w' ⟨rfl, rfl⟩
    go_wp2_with fail
    go_ret
    exact ⟨rfl, rfl⟩

theorem trim_is (s : ByteArray) (w : World) : Calls Try.prog 40 #[.string s, .string ⟨#[42, 46]⟩] w fun e w' => e = .returned (.string (trimB s)) ∧ w = w' := by
  obtain ⟨t, ht⟩ : ∃ t, trimB s = t := ⟨_, rfl⟩
  have hp := trimLite_is s w
  rw [ht] at hp ⊢
  clear ht
  go_enter Try.func40, Try.ntmps40
  go_wp2_with fail
  refine hp.mono ?_
  rintro e w' ⟨rfl, rfl⟩
  go_wp2_with fail
  go_ret
  exact ⟨rfl, rfl⟩

theorem pattern_is (s : ByteArray) (w : World) : Calls Try.prog 38 #[.string s] w (Says w (patternB s)) := by
  obtain ⟨c, hc⟩ : ∃ c, (s.toList == [42]) = c := ⟨_, rfl⟩
  unfold patternB
  rw [hc]
  cases c with
  | true =>
    rw [Bool.true_or]
    go_enter Try.func38, Try.ntmps38
    go_wp2_with fail
    go_ret
    exact ⟨rfl, Below.refl _ _⟩
  | false =>
    rw [Bool.false_or]
    have ht := trim_is s w
    generalize trimB s = t at ht ⊢
    have hh := host_is t w
    generalize hostB t = d at hh ⊢
    go_enter Try.func38, Try.ntmps38
    go_wp2_with fail
    refine ht.mono ?_
    rintro e w' ⟨rfl, rfl⟩
    go_wp2_with fail
    refine hh.mono ?_
    rintro e w1 ⟨rfl, hb⟩
    go_wp2_with fail
    go_ret
    exact ⟨rfl, hb⟩

/-! The document's own. -/
theorem size_list (s : ByteArray) : s.data.toList.length = s.size := by simp
theorem toList_data (s : ByteArray) : s.toList = s.data.toList := ByteArray.toList_eq s
theorem hostB_empty {s : ByteArray} (h : s.size = 0) : hostB s = false := by
  rw [hostB_list]
  have : s.data.toList = [] := List.eq_nil_of_length_eq_zero (by rw [size_list]; exact h)
  rw [this]; rfl
theorem extract_list (s : ByteArray) (a b : Nat) : (s.extract a b).data.toList = (s.data.toList.take b).drop a := by
  rw [ByteArray.data_extract, Array.toList_extract, List.extract_eq_take_drop, List.drop_take]

theorem pattern_tail {s : ByteArray} (h : tailB s = true) (h2 : 2 < s.size) : patternB s = hostB (s.extract 2 s.size) := by
  rw [patternB, trimB, h, cond_true]
  have : (s.toList == [42]) = false := by
    rw [beq_eq_false_iff_ne]
    intro e
    rw [toList_data] at e
    have := size_list s
    rw [e] at this
    simp at this; omega
  rw [this, Bool.false_or]
theorem pattern_plain {s : ByteArray} (h : tailB s = false ∨ s.size ≤ 2) : patternB s = ((s.toList == [42]) || hostB s) := by
  rcases hc : tailB s with _ | _
  · rw [patternB, trimB, hc, cond_false]
  · have h2 := tail_size hc
    have h3 : s.size = 2 := by
      rcases h with h | h
      · rw [hc] at h; cases h
      · omega
    have he : (s.extract 2 s.size).size = 0 := by simp; omega
    rw [patternB, trimB, hc, cond_true, hostB_empty he]
    have hs : s.data.toList = [42, 46] := by
      unfold tailB at hc
      rw [Bool.and_eq_true, beq_iff_eq, toList_data, extract_list] at hc
      have := hc.2
      rwa [List.drop_zero, List.take_of_length_le (by rw [size_list]; omega)] at this
    have hh : hostB s = false := by rw [hostB_list, hs]; rfl
    rw [hh]

theorem rpattern_is (s : ByteArray) (w : World) (h : s.size ≤ 2000) : Calls Try.prog 34 #[.string s] w (Says w (patternB s)) := by
  by_cases h2 : 2 < s.size
  · have h1 : decide ((2 : Int) < (s.size : Int)) = true := by simp; omega
    have h3 : (s.extract 2 s.size).size ≤ 2000 := by simp; omega
    obtain ⟨c, hc⟩ : ∃ c, ((s.extract 0 2).toList == [42, 46]) = c := ⟨_, rfl⟩
    have ht : tailB s = c := by rw [tailB, hc, decide_eq_true (by omega), Bool.true_and]
    cases c with
    | true =>
      rw [pattern_tail ht h2]
      clear ht
      obtain ⟨t, het⟩ : ∃ t, s.extract 2 s.size = t := ⟨_, rfl⟩
      have hh := rhost_is (s.extract 2 s.size) w h3
      rw [het] at hh ⊢
      generalize hostB t = d at hh ⊢
      clear h3
      go_enter Try.func34, Try.ntmps34
      go_wp2_with fail
      refine hh.mono ?_
      rintro e w1 ⟨rfl, hb⟩
      go_wp2_with fail
      go_ret
      exact ⟨rfl, hb⟩
    | false =>
      rw [pattern_plain (.inl ht)]
      clear ht h3
      have hh := rhost_is s w h
      generalize hostB s = d at hh ⊢
      obtain ⟨q, hq⟩ : ∃ q, (s.toList == [42]) = q := ⟨_, rfl⟩
      rw [hq]
      cases q with
      | true =>
        rw [Bool.true_or]
        go_enter Try.func34, Try.ntmps34
        go_wp2_with fail
        go_ret
        exact ⟨rfl, Below.refl _ _⟩
      | false =>
        rw [Bool.false_or]
        go_enter Try.func34, Try.ntmps34
        go_wp2_with fail
        refine hh.mono ?_
        rintro e w1 ⟨rfl, hb⟩
        go_wp2_with fail
        go_ret
        exact ⟨rfl, hb⟩
  · have h1 : decide ((2 : Int) < (s.size : Int)) = false := by simp; omega
    rw [pattern_plain (.inr (by omega))]
    have hh := rhost_is s w h
    generalize hostB s = d at hh ⊢
    obtain ⟨q, hq⟩ : ∃ q, (s.toList == [42]) = q := ⟨_, rfl⟩
    rw [hq]
    cases q with
    | true =>
      rw [Bool.true_or]
      go_enter Try.func34, Try.ntmps34
      go_wp2_with fail
      go_ret
      exact ⟨rfl, Below.refl _ _⟩
    | false =>
      rw [Bool.false_or]
      go_enter Try.func34, Try.ntmps34
      go_wp2_with fail
      refine hh.mono ?_
      rintro e w1 ⟨rfl, hb⟩
      go_wp2_with fail
      go_ret
      exact ⟨rfl, hb⟩
end Go.Proofs.Ytnjacobimndnbaa
