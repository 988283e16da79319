/- Which thread goes next, as plain data: picks, rounds, fair orders. No word of the program. -/
import Derived.Test.YthheehcdicaggaaArgs
namespace Go.Proofs.Ythheehcdicaggaa
open Go.RowKit
set_option linter.unusedVariables false
set_option linter.unusedSimpArgs false

def pickI (p : Int) (l : List Int) : Int × Int := if p < 0 then (0, 1) else if l.length = 0 then (0, 5) else (l.getD (p.toNat % l.length) 0, 0)
def turnsL (T n : Nat) : List Int := (List.range n).map fun i => ((i % T : Nat) : Int)
def roundI (t n : Int) : List Int × Int := if t < 1 ∨ 8 < t ∨ n < 0 ∨ 4000 < n then ([], 1) else (turnsL t.toNat n.toNat, 0)
def hasI (l : List Int) (t : Int) : Bool := l.any (· == t)
def winOk (l : List Int) (T b i : Nat) : Bool := (List.range T).all fun t => hasI ((l.drop i).take b) t
def fairN (l : List Int) (T b : Nat) : Bool := (List.range (l.length + 1 - b)).all fun i => winOk l T b i
def fairI (l : List Int) (t b : Int) : Bool := decide (1 ≤ t) && decide (1 ≤ b) && fairN l t.toNat b.toNat
def mostF (l : List Int) (T : Nat) : Nat → Nat → Nat
  | 0, b => b
  | f + 1, b => if fairN l T b then b else mostF l T f (b + 1)
def mostI (l : List Int) (t : Int) : Int := if t < 1 then 0 else (mostF l t.toNat l.length 1 : Nat)

theorem hasI_iff {l : List Int} {t : Int} : hasI l t = true ↔ t ∈ l := by simp [hasI]
theorem win_iff {l : List Int} {T b i : Nat} : winOk l T b i = true ↔ ∀ t : Nat, t < T → ∃ j, i ≤ j ∧ j < i + b ∧ l[j]? = some (t : Int) := by
  unfold winOk
  simp only [List.all_eq_true, List.mem_range, hasI_iff]
  refine ⟨fun h t ht => ?_, fun h t ht => ?_⟩
  · obtain ⟨k, hk, he⟩ := List.getElem_of_mem (h t ht)
    rw [List.length_take, List.length_drop] at hk
    refine ⟨i + k, by omega, by omega, ?_⟩
    rw [List.getElem_take, List.getElem_drop] at he
    rw [List.getElem?_eq_getElem (by omega), he]
  · obtain ⟨j, h1, h2, h3⟩ := h t ht
    have hj := (List.getElem?_eq_some_iff.1 h3).1
    refine List.mem_of_getElem? (i := j - i) ?_
    rw [List.getElem?_take_of_lt (by omega), List.getElem?_drop, show i + (j - i) = j by omega, h3]
theorem fair_iff {l : List Int} {T b : Nat} : fairN l T b = true ↔ ∀ i, i + b ≤ l.length → ∀ t : Nat, t < T → ∃ j, i ≤ j ∧ j < i + b ∧ l[j]? = some (t : Int) := by
  unfold fairN
  simp only [List.all_eq_true, List.mem_range, win_iff]
  exact ⟨fun h i hi => h i (by omega), fun h i hi => h i (by omega)⟩
theorem fair_big {l : List Int} {T b : Nat} (h : l.length < b) : fairN l T b = true := fair_iff.2 fun i hi => by omega
theorem fair_more {l : List Int} {T b b' : Nat} (h : fairN l T b = true) (hb : b ≤ b') : fairN l T b' = true := fair_iff.2 fun i hi t ht => by
  obtain ⟨j, h1, h2, h3⟩ := fair_iff.1 h i (by omega) t ht
  exact ⟨j, h1, by omega, h3⟩
theorem fair_part {l : List Int} {T b f m : Nat} (h : fairN l T b = true) (hl : f + m ≤ l.length) : fairN ((l.drop f).take m) T b = true := fair_iff.2 fun i hi t ht => by
  rw [List.length_take, List.length_drop] at hi
  obtain ⟨j, h1, h2, h3⟩ := fair_iff.1 h (f + i) (by omega) t ht
  refine ⟨j - f, by omega, by omega, ?_⟩
  rw [List.getElem?_take_of_lt (by omega), List.getElem?_drop, show f + (j - f) = j by omega, h3]
theorem most_le {l : List Int} {T f b b' : Nat} (h : fairN l T b' = true) (hb : b ≤ b') : mostF l T f b ≤ b' := by
  induction f generalizing b with
  | zero => exact hb
  | succ f ih =>
    rw [mostF]
    by_cases hf : fairN l T b = true
    · rw [if_pos hf]; exact hb
    · rw [if_neg hf]
      refine ih ?_
      rcases Nat.lt_or_ge b b' with h' | h'
      · omega
      · obtain rfl : b = b' := by omega
        exact absurd h hf
theorem most_fair (l : List Int) (T f b : Nat) : fairN l T (mostF l T f b) = true ∨ mostF l T f b = b + f := by
  induction f generalizing b with
  | zero => exact .inr rfl
  | succ f ih =>
    rw [mostF]
    by_cases hf : fairN l T b = true
    · rw [if_pos hf]; exact .inl hf
    · rw [if_neg hf]
      rcases ih (b + 1) with h | h
      · exact .inl h
      · exact .inr (by omega)
theorem most_ge (l : List Int) (T f b : Nat) : b ≤ mostF l T f b := by
  induction f generalizing b with
  | zero => exact Nat.le_refl _
  | succ f ih =>
    rw [mostF]
    split
    · exact Nat.le_refl _
    · have := ih (b + 1); omega
theorem most_is_fair (l : List Int) (T : Nat) : fairN l T (mostF l T l.length 1) = true := by
  rcases most_fair l T l.length 1 with h | h
  · exact h
  · rw [h]; exact fair_big (by omega)

/-! What the statements say. -/
theorem fairI_more {l : List Int} {t b : Int} (h : fairI l t b = true) : fairI l t (b + 1) = true := by
  unfold fairI at h ⊢
  simp only [Bool.and_eq_true, decide_eq_true_eq] at h ⊢
  exact ⟨⟨h.1.1, by omega⟩, fair_more h.2 (by omega)⟩
theorem fairI_part {l : List Int} {t b : Int} (h : fairI l t b = true) {f m : Nat} (hl : f + m ≤ l.length) : fairI ((l.drop f).take m) t b = true := by
  unfold fairI at h ⊢
  simp only [Bool.and_eq_true, decide_eq_true_eq] at h ⊢
  exact ⟨h.1, fair_part h.2 hl⟩
theorem fairI_most {l : List Int} {t b : Int} (h : fairI l t b = true) : mostI l t ≤ b := by
  unfold fairI at h
  simp only [Bool.and_eq_true, decide_eq_true_eq] at h
  unfold mostI
  rw [if_neg (by omega)]
  have := most_le (f := l.length) (b := 1) h.2 (by omega)
  omega
theorem turns_len (T n : Nat) : (turnsL T n).length = n := by simp [turnsL]
theorem turns_at {T n i : Nat} (h : i < n) : (turnsL T n)[i]? = some ((i % T : Nat) : Int) := by
  unfold turnsL
  rw [List.getElem?_map, List.getElem?_range h]
  rfl
theorem turns_fair {T n : Nat} (hT : 1 ≤ T) : fairN (turnsL T n) T T = true := fair_iff.2 fun i hi t ht => by
  rw [turns_len] at hi
  have hm := Nat.mod_lt i (show 0 < T by omega)
  have hd := Nat.div_add_mod i T
  by_cases h : i % T ≤ t
  · refine ⟨T * (i / T) + t, by omega, by omega, ?_⟩
    rw [turns_at (by omega), Nat.mul_add_mod, Nat.mod_eq_of_lt ht]
  · refine ⟨T * (i / T) + T + t, by omega, by omega, ?_⟩
    rw [turns_at (by omega), show T * (i / T) + T + t = T * (i / T + 1) + t by rw [Nat.mul_add]; omega, Nat.mul_add_mod, Nat.mod_eq_of_lt ht]
theorem turns_no_less {T n b : Nat} (hn : T ≤ n) (h : fairN (turnsL T n) T b = true) (hb : 1 ≤ b) : T ≤ b := by
  rcases Nat.lt_or_ge b T with hlt | hge
  · obtain ⟨j, _, h2, h3⟩ := fair_iff.1 h 0 (by rw [turns_len]; omega) b hlt
    rw [turns_at (by omega), Nat.mod_eq_of_lt (by omega)] at h3
    injection h3 with h3
    omega
  · exact hge
theorem round_ok {t n : Int} (h : (roundI t n).2 = 0) : (1 ≤ t ∧ t ≤ 8 ∧ 0 ≤ n ∧ n ≤ 4000) ∧ (roundI t n).1 = turnsL t.toNat n.toNat := by
  unfold roundI at h ⊢
  by_cases hc : t < 1 ∨ 8 < t ∨ n < 0 ∨ 4000 < n
  · rw [if_pos hc] at h; simp at h
  · rw [if_neg hc]
    exact ⟨by omega, rfl⟩
theorem round_err {t n : Int} : ((roundI t n).2 == 0) = (decide (1 ≤ t) && (decide (t ≤ 8) && (decide (0 ≤ n) && decide (n ≤ 4000)))) := by
  unfold roundI
  by_cases hc : t < 1 ∨ 8 < t ∨ n < 0 ∨ 4000 < n
  · rw [if_pos hc]
    symm
    rw [Bool.eq_iff_iff]
    simp only [Bool.and_eq_true, decide_eq_true_eq]
    exact ⟨fun h => by omega, fun h => by cases h⟩
  · rw [if_neg hc]
    symm
    rw [Bool.eq_iff_iff]
    simp only [Bool.and_eq_true, decide_eq_true_eq]
    exact ⟨fun _ => rfl, fun _ => by omega⟩
theorem round_fair {t n : Int} (h : (roundI t n).2 = 0) : fairI (roundI t n).1 t t = true := by
  obtain ⟨hb, e⟩ := round_ok h
  rw [e]
  unfold fairI
  rw [decide_eq_true hb.1, turns_fair (by omega)]
  rfl
theorem round_most {t n : Int} (h : (roundI t n).2 = 0) (hn : ¬ n < t) : mostI (roundI t n).1 t = t := by
  obtain ⟨hb, e⟩ := round_ok h
  rw [e]
  unfold mostI
  rw [if_neg (by omega)]
  have h1 := most_le (f := (turnsL t.toNat n.toNat).length) (b := 1) (turns_fair (T := t.toNat) (n := n.toNat) (by omega)) (by omega)
  have h2 := turns_no_less (by omega) (most_is_fair (turnsL t.toNat n.toNat) t.toNat) (most_ge _ _ _ _)
  omega
theorem round_pick {t n : Int} (h : (roundI t n).2 = 0) {i : Nat} (hi : i < (roundI t n).1.length) : pickI i (turnsL t.toNat t.toNat) = ((roundI t n).1[i], 0) := by
  obtain ⟨hb, e⟩ := round_ok h
  have hl := hi
  rw [e, turns_len] at hl
  have h1 : (roundI t n).1[i]? = some ((i % t.toNat : Nat) : Int) := by rw [e]; exact turns_at hl
  rw [List.getElem?_eq_getElem hi] at h1
  injection h1 with h1
  have hm := Nat.mod_lt i (show 0 < t.toNat by omega)
  unfold pickI
  rw [if_neg (by omega), turns_len, if_neg (by omega), h1, Int.toNat_natCast, List.getD, turns_at hm, Option.getD_some, Nat.mod_eq_of_lt hm]
end Go.Proofs.Ythheehcdicaggaa
