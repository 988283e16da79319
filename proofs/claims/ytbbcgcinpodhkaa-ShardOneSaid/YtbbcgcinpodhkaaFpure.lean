/- Counts, one row for each thread, as plain data: what an add makes of them, their sums. No word of the program. -/
import Derived.Test.YtbbcgcinpodhkaaArgs
namespace Go.Proofs.Ytbbcgcinpodhkaa
open Go.RowKit
set_option linter.unusedVariables false
set_option linter.unusedSimpArgs false

def U64 (x : Int) : Prop := 0 ≤ x ∧ x < 18446744073709551616
def bump (x : Int) : Int := (x + 1) % 18446744073709551616
def isC (c : List (List Int)) : Bool := c.all (fun r => decide (r.length = 6)) && (decide (1 ≤ c.length) && decide (c.length ≤ 8))
def addV (c : List (List Int)) (t k : Nat) : List (List Int) := c.modify t fun r => r.modify k bump
def okAdd (c : List (List Int)) (t k : Int) : Prop := isC c = true ∧ 0 ≤ t ∧ t < c.length ∧ 0 ≤ k ∧ k < 6
instance (c : List (List Int)) (t k : Int) : Decidable (okAdd c t k) := by unfold okAdd; infer_instance
def addC (c : List (List Int)) (t k : Int) : List (List Int) × Int := if okAdd c t k then (addV c t.toNat k.toNat, 0) else ([], 1)
def sumK (c : List (List Int)) (k : Nat) : Int := (c.map fun r => r.getD k 0).sum % 18446744073709551616
def sums (c : List (List Int)) : List Int := (List.range 6).map (sumK c)
def zero6 : List Int := List.replicate 6 0
def sumC (c : List (List Int)) : List Int × Int := if isC c = true then (sums c, 0) else (zero6, 1)
def newC (t : Int) : List (List Int) × Int := if 1 ≤ t ∧ t ≤ 8 then (List.replicate t.toNat zero6, 0) else ([], 1)
def bigC (c : List (List Int)) : Bool := decide (50 < c.length) || c.any (fun r => decide (50 < r.length))

theorem isC_iff {c : List (List Int)} : isC c = true ↔ (∀ r ∈ c, r.length = 6) ∧ 1 ≤ c.length ∧ c.length ≤ 8 := by
  unfold isC
  simp only [Bool.and_eq_true, List.all_eq_true, decide_eq_true_eq]
theorem addV_len (c : List (List Int)) (t k : Nat) : (addV c t k).length = c.length := by unfold addV; rw [List.length_modify]
theorem addV_at (c : List (List Int)) (t k i : Nat) : (addV c t k)[i]? = (c[i]?).map fun r => if t = i then r.modify k bump else r := by
  unfold addV
  rw [List.getElem?_modify]
  rfl
theorem addV_rows {c : List (List Int)} {t k n : Nat} (h : ∀ r ∈ c, r.length = n) : ∀ r ∈ addV c t k, r.length = n := by
  intro r hr
  obtain ⟨i, hi⟩ := List.mem_iff_getElem?.1 hr
  rw [addV_at] at hi
  obtain ⟨r0, h0, rfl⟩ := Option.map_eq_some_iff.1 hi
  have := h r0 (List.mem_of_getElem? h0)
  split
  · rw [List.length_modify]; exact this
  · exact this
theorem isC_add {c : List (List Int)} {t k : Nat} (h : isC c = true) : isC (addV c t k) = true := by
  rw [isC_iff] at h ⊢
  rw [addV_len]
  exact ⟨addV_rows h.1, h.2⟩
theorem addV_swap (c : List (List Int)) (t k u n : Nat) : addV (addV c t k) u n = addV (addV c u n) t k := by
  refine List.ext_getElem? fun i => ?_
  rw [addV_at, addV_at, addV_at, addV_at, Option.map_map, Option.map_map]
  congr 1
  funext r
  simp only [Function.comp]
  by_cases h1 : t = i <;> by_cases h2 : u = i
  · rw [if_pos h1, if_pos h2, if_pos h2, if_pos h1]
    refine List.ext_getElem? fun j => ?_
    rw [List.getElem?_modify, List.getElem?_modify, List.getElem?_modify, List.getElem?_modify]
    rcases r[j]? with _ | x
    · rfl
    · show some _ = some _
      by_cases h3 : k = j <;> by_cases h4 : n = j <;> simp [h3, h4]
  · simp [h1, h2]
  · simp [h1, h2]
  · simp [h1, h2]
theorem okAdd_add {c : List (List Int)} {t k : Nat} {u n : Int} (h : okAdd c u n) : okAdd (addV c t k) u n := ⟨isC_add h.1, h.2.1, by rw [addV_len]; exact h.2.2.1, h.2.2.2⟩
theorem add_ok {c : List (List Int)} {t k : Int} (h : (addC c t k).2 = 0) : okAdd c t k ∧ addC c t k = (addV c t.toNat k.toNat, 0) := by
  unfold addC at h ⊢
  by_cases hc : okAdd c t k
  · rw [if_pos hc]; exact ⟨hc, rfl⟩
  · rw [if_neg hc] at h; cases h
theorem add_yes {c : List (List Int)} {t k : Int} (h : okAdd c t k) : addC c t k = (addV c t.toNat k.toNat, 0) := if_pos h
theorem add_swap {c : List (List Int)} {t k u n : Int} (h1 : (addC c t k).2 = 0) (h2 : (addC c u n).2 = 0) : (addC (addC c t k).1 u n).2 = 0 ∧ (addC (addC c u n).1 t k).2 = 0 ∧ (addC (addC c t k).1 u n).1 = (addC (addC c u n).1 t k).1 := by
  obtain ⟨o1, e1⟩ := add_ok h1
  obtain ⟨o2, e2⟩ := add_ok h2
  rw [e1, e2, add_yes (okAdd_add o2), add_yes (okAdd_add o1)]
  exact ⟨rfl, rfl, addV_swap _ _ _ _ _⟩
theorem getD_modify (r : List Int) (k j : Nat) (hk : k < r.length) : (r.modify k bump).getD j 0 = if j = k then bump (r.getD k 0) else r.getD j 0 := by
  rw [List.getD_eq_getElem?_getD, List.getElem?_modify]
  by_cases h : k = j
  · subst h
    rw [if_pos rfl, List.getD_eq_getElem?_getD, List.getElem?_eq_getElem hk]
    simp
  · rw [if_neg (Ne.symm h), List.getD_eq_getElem?_getD]
    rcases r[j]? with _ | x
    · rfl
    · simp [h]
theorem sum_add {c : List (List Int)} {t k : Nat} (ht : t < c.length) (hk : k < 6) (h : ∀ r ∈ c, r.length = 6) (j : Nat) : sumK (addV c t k) j = if j = k then (sumK c k + 1) % 18446744073709551616 else sumK c j := by
  induction c generalizing t with
  | nil => simp at ht
  | cons r c ih =>
    have hr := h r (List.mem_cons_self ..)
    cases t with
    | zero =>
      have e : addV (r :: c) 0 k = r.modify k bump :: c := rfl
      unfold sumK
      rw [e, List.map_cons, List.map_cons, List.sum_cons, List.sum_cons, getD_modify r k j (by omega), List.map_cons, List.sum_cons]
      by_cases hj : j = k
      · subst hj
        rw [if_pos rfl, if_pos rfl]
        unfold bump
        omega
      · rw [if_neg hj, if_neg hj]
    | succ t =>
      have e : addV (r :: c) (t + 1) k = r :: addV c t k := rfl
      have h1 := ih (t := t) (by simpa using ht) fun r hr => h r (List.mem_cons_of_mem _ hr)
      unfold sumK at h1 ⊢
      rw [e, List.map_cons, List.map_cons, List.sum_cons, List.sum_cons, List.map_cons, List.sum_cons]
      by_cases hj : j = k
      · subst hj
        rw [if_pos rfl] at h1 ⊢
        omega
      · rw [if_neg hj] at h1 ⊢
        omega
theorem sums_len (c : List (List Int)) : (sums c).length = 6 := by simp [sums]
theorem sums_at (c : List (List Int)) {j : Nat} (hj : j < 6) : (sums c)[j]? = some (sumK c j) := by
  unfold sums
  rw [List.getElem?_map, List.getElem?_range hj]
  rfl
theorem sums_add {c : List (List Int)} {t k : Nat} (ht : t < c.length) (hk : k < 6) (h : ∀ r ∈ c, r.length = 6) : sums (addV c t k) = (sums c).set k ((sumK c k + 1) % 18446744073709551616) := by
  refine List.ext_getElem? fun j => ?_
  rw [List.getElem?_set, sums_len]
  by_cases hj : j < 6
  · rw [sums_at _ hj, sums_at _ hj, sum_add ht hk h]
    by_cases hjk : k = j
    · subst hjk; rw [if_pos rfl, if_pos rfl, if_pos hk]
    · rw [if_neg hjk, if_neg (Ne.symm hjk)]
  · rw [List.getElem?_eq_none (by rw [sums_len]; omega), List.getElem?_eq_none (by rw [sums_len]; omega), if_neg (by omega)]
theorem sumK_u64 (c : List (List Int)) (k : Nat) : U64 (sumK c k) := by unfold sumK U64; omega
theorem isC_new {t : Int} (h : (newC t).2 = 0) : isC (newC t).1 = true ∧ (newC t).1.length = t.toNat ∧ 1 ≤ t ∧ t ≤ 8 ∧ sums (newC t).1 = zero6 := by
  unfold newC at h ⊢
  by_cases hc : 1 ≤ t ∧ t ≤ 8
  · rw [if_pos hc]
    refine ⟨isC_iff.2 ⟨fun r hr => by rw [List.eq_of_mem_replicate hr]; rfl, by simp; omega, by simp; omega⟩, by simp, hc.1, hc.2, ?_⟩
    refine List.ext_getElem? fun j => ?_
    by_cases hj : j < 6
    · rw [sums_at _ hj]
      have h0 : ∀ n : Nat, sumK (List.replicate n zero6) j = 0 := fun n => by
        unfold sumK
        have hz : zero6.getD j 0 = 0 := by
          unfold zero6
          rw [List.getD_eq_getElem?_getD, List.getElem?_replicate, if_pos hj]
          rfl
        rw [List.map_replicate, hz]
        have : ∀ n : Nat, (List.replicate n (0 : Int)).sum = 0 := fun n => by
          induction n with
          | zero => rfl
          | succ n ih => rw [List.replicate_succ, List.sum_cons, ih]; rfl
        rw [this]; rfl
      rw [h0]
      unfold zero6
      rw [List.getElem?_replicate, if_pos hj]
    · rw [List.getElem?_eq_none (by rw [sums_len]; omega), List.getElem?_eq_none (by simp [zero6]; omega)]
  · rw [if_neg hc] at h; cases h
end Go.Proofs.Ytbbcgcinpodhkaa
