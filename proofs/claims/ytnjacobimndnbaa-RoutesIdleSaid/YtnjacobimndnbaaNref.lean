/- The document's own Name and Path. -/
import Derived.Test.YtnjacobimndnbaaNbyte
namespace Go.Proofs.Ytnjacobimndnbaa
open Go.RowKit
set_option linter.unusedVariables false
set_option linter.unusedSimpArgs false
set_option maxRecDepth 100000

theorem lowI_word {n : Int} (h : lowI n = true) : wordI n = true := by simp [wordI, h]
theorem slashI_path {n : Int} (h : slashI n = true) : pathI n = true := by simp [pathI, h]

theorem rname_not (s : ByteArray) (w : World) (h : s.size = 0 ∨ 16 < s.size) :
    Calls Try.prog 49 #[.string s] w fun e w' => e = .returned (.bool false) ∧ w = w' := by
  rcases h with h | h
  · have h1 : decide ((s.size : Int) < 1) = true := by simp; omega
    have H := Lib.hid h
    clear h
    go_enter Try.func49, Try.ntmps49
    go_wp2
    go_ret
    exact ⟨rfl, rfl⟩
  · have h1 : decide ((s.size : Int) < 1) = false := by simp; omega
    have h2 : decide ((16 : Int) < (s.size : Int)) = true := by simp; omega
    go_enter Try.func49, Try.ntmps49
    go_wp2
    go_ret
    exact ⟨rfl, rfl⟩

theorem rname_first (s : ByteArray) (w : World) (h : 0 < s.size) (hM : s.size ≤ 16) (hf : lowI (s[0].toNat : Int) = false) :
    Calls Try.prog 49 #[.string s] w fun e w' => e = .returned (.bool false) ∧ w = w' := by
  have h1 : decide ((s.size : Int) < 1) = false := by simp; omega
  have h2 : decide ((16 : Int) < (s.size : Int)) = false := by simp; omega
  have hc := fun w => low_is (s[0].toNat : Int) w (by omega) (by have := s[0].toNat_lt; omega)
  rw [hf] at hc
  have HF := Lib.hid hf
  clear hf
  go_enter Try.func49, Try.ntmps49
  go_wp2_with (go_at_call 55; refine (hc _).mono ?_; rintro e w' ⟨rfl, rfl⟩)
  go_ret
  exact ⟨rfl, rfl⟩

def seenR (s : ByteArray) (i : Value) : Prop := ∃ k : Nat, k ≤ s.size ∧ i = .int .i64 k ∧ ∀ j (hj : j < s.size), j < k → wordI (s[j].toNat : Int) = true

theorem rname_runs (s : ByteArray) (w : World) (h : 0 < s.size) (hM : s.size ≤ 16) (hf : lowI (s[0].toNat : Int) = true) :
    Calls Try.prog 49 #[.string s] w fun e w' => e = .returned (.bool (nameB s)) ∧ w = w' := by
  have h1 : decide ((s.size : Int) < 1) = false := by simp; omega
  have h2 : decide ((16 : Int) < (s.size : Int)) = false := by simp; omega
  have hc := fun w => low_is (s[0].toNat : Int) w (by omega) (by have := s[0].toNat_lt; omega)
  rw [hf] at hc
  have HF := Lib.hid hf
  clear hf
  go_enter Try.func49, Try.ntmps49
  go_wp2_with (go_at_call 55; refine (hc _).mono ?_; rintro e w' ⟨rfl, rfl⟩)
  clear hc h1 h2
  go_loop [3] (fun i => seenR s i) (fun i => s.size - (intOf i).toNat)
  case atStart => exact ⟨0, by omega, rfl, fun j _ h0 => by omega⟩
  case round =>
    obtain ⟨k, hk, rfl, hseen⟩ := hrel
    have HS := Lib.hid hseen
    clear hseen
    by_cases hlt : k < s.size
    · have hcg := fun w => word_is (s[k].toNat : Int) w (by omega) (by have := s[k].toNat_lt; omega)
      obtain ⟨b, hb⟩ : ∃ b, wordI (s[k].toNat : Int) = b := ⟨_, rfl⟩
      rw [hb] at hcg
      have HB := Lib.hid hb
      clear hb
      cases b with
      | false =>
        have h0 : 0 < k := by
          rcases Nat.eq_zero_or_pos k with rfl | h0
          · exact absurd (lowI_word HF.out) (by rw [HB.out]; exact Bool.false_ne_true)
          · exact h0
        go_wp2_with (go_at_call 50; refine (hcg _).mono ?_; rintro e w' ⟨rfl, rfl⟩)
        go_ret
        exact ⟨ret_bool (kindB_next hlt h0 HB.out).symm, rfl⟩
      | true =>
        go_wp2_with (go_at_call 50; refine (hcg _).mono ?_; rintro e w' ⟨rfl, rfl⟩)
        go_round
        case rel => exact ⟨k + 1, by omega, by go_num, fun j hj h0 => by
          by_cases e : j = k
          · subst e; exact HB.out
          · exact HS.out j hj (by omega)⟩
        case measure => simp [intOf]; omega
    · go_wp2
      go_ret
      exact ⟨ret_bool (kindB_yes h hM HF.out fun j hj h0 => HS.out j hj (by omega)).symm, rfl⟩

theorem rname_is (s : ByteArray) (w : World) : Calls Try.prog 49 #[.string s] w fun e w' => e = .returned (.bool (nameB s)) ∧ w = w' := by
  by_cases h0 : s.size = 0
  · exact (rname_not s w (.inl h0)).mono fun _ _ h => by rw [nameB, kindB_empty h0]; exact h
  · by_cases h1 : 16 < s.size
    · exact (rname_not s w (.inr h1)).mono fun _ _ h => by rw [nameB, kindB_long h1]; exact h
    · have h2 : 0 < s.size := by omega
      rcases hf : lowI (s[0].toNat : Int) with _ | _
      · exact (rname_first s w h2 (by omega) hf).mono fun _ _ h => by rw [nameB, kindB_first h2 hf]; exact h
      · exact rname_runs s w h2 (by omega) hf

/-! Path. -/
theorem rpath_not (s : ByteArray) (w : World) (h : s.size = 0 ∨ 32 < s.size) :
    Calls Try.prog 36 #[.string s] w fun e w' => e = .returned (.bool false) ∧ w = w' := by
  rcases h with h | h
  · have h1 : decide ((s.size : Int) < 1) = true := by simp; omega
    have H := Lib.hid h
    clear h
    go_enter Try.func36, Try.ntmps36
    go_wp2
    go_ret
    exact ⟨rfl, rfl⟩
  · have h1 : decide ((s.size : Int) < 1) = false := by simp; omega
    have h2 : decide ((32 : Int) < (s.size : Int)) = true := by simp; omega
    go_enter Try.func36, Try.ntmps36
    go_wp2
    go_ret
    exact ⟨rfl, rfl⟩

theorem slashI_no {n : Int} (h : slashI n = false) : (n != 47) = true := by simpa [slashI] using h
theorem slashI_yes {n : Int} (h : slashI n = true) : (n != 47) = false := by simpa [slashI] using h

theorem rpath_first (s : ByteArray) (w : World) (h : 0 < s.size) (hM : s.size ≤ 32) (hf : slashI (s[0].toNat : Int) = false) :
    Calls Try.prog 36 #[.string s] w fun e w' => e = .returned (.bool false) ∧ w = w' := by
  have h1 : decide ((s.size : Int) < 1) = false := by simp; omega
  have h2 : decide ((32 : Int) < (s.size : Int)) = false := by simp; omega
  have h3 := slashI_no hf
  clear hf
  go_enter Try.func36, Try.ntmps36
  go_wp2
  go_ret
  exact ⟨rfl, rfl⟩

def seenQ (s : ByteArray) (i : Value) : Prop := ∃ k : Nat, k ≤ s.size ∧ i = .int .i64 k ∧ ∀ j (hj : j < s.size), j < k → pathI (s[j].toNat : Int) = true

theorem rpath_runs (s : ByteArray) (w : World) (h : 0 < s.size) (hM : s.size ≤ 32) (hf : slashI (s[0].toNat : Int) = true) :
    Calls Try.prog 36 #[.string s] w fun e w' => e = .returned (.bool (pathB s)) ∧ w = w' := by
  have h1 : decide ((s.size : Int) < 1) = false := by simp; omega
  have h2 : decide ((32 : Int) < (s.size : Int)) = false := by simp; omega
  have h3 := slashI_yes hf
  have HF := Lib.hid hf
  clear hf
  go_enter Try.func36, Try.ntmps36
  go_wp2
  clear h3 h1 h2
  go_loop [3] (fun i => seenQ s i) (fun i => s.size - (intOf i).toNat)
  case atStart => exact ⟨0, by omega, rfl, fun j _ h0 => by omega⟩
  case round =>
    obtain ⟨k, hk, rfl, hseen⟩ := hrel
    have HS := Lib.hid hseen
    clear hseen
    by_cases hlt : k < s.size
    · have hcg := fun w => word_is (s[k].toNat : Int) w (by omega) (by have := s[k].toNat_lt; omega)
      obtain ⟨b, hb⟩ : ∃ b, wordI (s[k].toNat : Int) = b := ⟨_, rfl⟩
      obtain ⟨c, hc⟩ : ∃ c, slashI (s[k].toNat : Int) = c := ⟨_, rfl⟩
      rw [hb] at hcg
      have HP : Hid (pathI (s[k].toNat : Int) = (b || c)) := Lib.hid (by rw [pathI, hb, hc])
      have HC := Lib.hid hc
      clear hb hc
      cases b with
      | false =>
        cases c with
        | false =>
          have h0 : 0 < k := by
            rcases Nat.eq_zero_or_pos k with rfl | h0
            · exact absurd (slashI_path HF.out) (by rw [HP.out]; exact Bool.false_ne_true)
            · exact h0
          have h4 := slashI_no HC.out
          go_wp2_with (go_at_call 50; refine (hcg _).mono ?_; rintro e w' ⟨rfl, rfl⟩)
          go_ret
          exact ⟨ret_bool (kindB_next hlt h0 HP.out).symm, rfl⟩
        | true =>
          have h4 := slashI_yes HC.out
          go_wp2_with (go_at_call 50; refine (hcg _).mono ?_; rintro e w' ⟨rfl, rfl⟩)
          go_round
          case rel => exact ⟨k + 1, by omega, by go_num, fun j hj h0 => by
            by_cases e : j = k
            · subst e; exact HP.out
            · exact HS.out j hj (by omega)⟩
          case measure => simp [intOf]; omega
      | true =>
        go_wp2_with (go_at_call 50; refine (hcg _).mono ?_; rintro e w' ⟨rfl, rfl⟩)
        go_round
        case rel => exact ⟨k + 1, by omega, by go_num, fun j hj h0 => by
          by_cases e : j = k
          · subst e; exact HP.out
          · exact HS.out j hj (by omega)⟩
        case measure => simp [intOf]; omega
    · go_wp2
      go_ret
      exact ⟨ret_bool (kindB_yes h hM HF.out fun j hj h0 => HS.out j hj (by omega)).symm, rfl⟩

theorem rpath_is (s : ByteArray) (w : World) : Calls Try.prog 36 #[.string s] w fun e w' => e = .returned (.bool (pathB s)) ∧ w = w' := by
  by_cases h0 : s.size = 0
  · exact (rpath_not s w (.inl h0)).mono fun _ _ h => by rw [pathB, kindB_empty h0]; exact h
  · by_cases h1 : 32 < s.size
    · exact (rpath_not s w (.inr h1)).mono fun _ _ h => by rw [pathB, kindB_long h1]; exact h
    · have h2 : 0 < s.size := by omega
      rcases hf : slashI (s[0].toNat : Int) with _ | _
      · exact (rpath_first s w h2 (by omega) hf).mono fun _ _ h => by rw [pathB, kindB_first h2 hf]; exact h
      · exact rpath_runs s w h2 (by omega) hf
end Go.Proofs.Ytnjacobimndnbaa
