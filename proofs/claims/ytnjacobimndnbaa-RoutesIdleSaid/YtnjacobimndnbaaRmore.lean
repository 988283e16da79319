/- The best rule, with a rule more: plain data. No word of the program. -/
import Derived.Test.YtnjacobimndnbaaRpure
namespace Go.Proofs.Ytnjacobimndnbaa
open Go.RowKit
set_option linter.unusedVariables false
set_option linter.unusedSimpArgs false

section
variable {l : List Rl} {f : Rl → Bool} {r : Rl}
/-- The best one's number x, in plain words. -/
structure At (l : List Rl) (f : Rl → Bool) (x : Nat) : Prop where
  lt : x < l.length
  fits : f l[x] = true
  none : ∀ j (hj : j < l.length), f l[j] = true → btB l[j] l[x] = false
  first : ∀ j (hj : j < l.length), j < x → f l[j] = true → btB l[x] l[j] = true
theorem At.best {x : Nat} (h : At l f x) : bestO l f = some ⟨x, h.lt⟩ := best_eq ⟨h.lt, h.fits, fun i _ hf => h.none i.1 i.2 hf, fun i hi hf => h.first i.1 i.2 hi hf⟩
theorem best_none (h : ∀ j (hj : j < l.length), f l[j] = false) : bestO l f = none := best_eq fun i _ => h i.1 i.2
theorem best_cases (l : List Rl) (f : Rl → Bool) : (bestO l f = none ∧ ∀ j (hj : j < l.length), f l[j] = false) ∨ ∃ x, ∃ h : At l f x, bestO l f = some ⟨x, h.lt⟩ := by
  have h := best_is (l := l) (f := f)
  rcases ho : bestO l f with _ | x
  · rw [ho] at h
    exact .inl ⟨rfl, fun j hj => h ⟨j, hj⟩ hj⟩
  · rw [ho] at h
    have hA : At l f x.1 := ⟨x.2, h.2.1, fun j hj hf => h.2.2.1 ⟨j, hj⟩ hj hf, fun j hj hjx hf => h.2.2.2 ⟨j, hj⟩ hjx hf⟩
    exact .inr ⟨x.1, hA, rfl⟩
theorem At.num {x : Nat} (h : At l f x) : numO (bestO l f) = (x : Int) := by rw [h.best]; rfl
theorem At.err {x : Nat} (h : At l f x) : errO (bestO l f) = 0 := by rw [h.best]; rfl

/-! One more, somewhere. -/
def ins (l : List Rl) (a : Nat) (r : Rl) : List Rl := (l.take a ++ [r]) ++ l.drop a
theorem ins_len {a : Nat} (ha : a ≤ l.length) : (ins l a r).length = l.length + 1 := by simp [ins]; omega
theorem ins_lt {a j : Nat} (ha : a ≤ l.length) (hj : j < a) (h : j < (ins l a r).length) : (ins l a r)[j] = l[j]'(by omega) := by
  revert h
  unfold ins
  intro h
  rw [List.getElem_append_left (by simp; omega), List.getElem_append_left (by simp; omega), List.getElem_take]
theorem ins_at {a : Nat} (ha : a ≤ l.length) (h : a < (ins l a r).length) : (ins l a r)[a] = r := by
  revert h
  unfold ins
  intro h
  rw [List.getElem_append_left (by simp; omega), List.getElem_append_right (by simp; omega)]
  simp
theorem ins_gt {a j : Nat} (ha : a ≤ l.length) (hj : a < j) (h : j < (ins l a r).length) : (ins l a r)[j] = l[j - 1]'(by rw [ins_len ha] at h; omega) := by
  revert h
  unfold ins
  intro h
  rw [List.getElem_append_right (by simp; omega), List.getElem_drop]
  congr 1
  simp
  omega

/-- A rule that does not fit plays no part. -/
theorem ins_idle {a : Nat} (ha : a ≤ l.length) (hr : f r = false) :
    (bestO l f = none ∧ bestO (ins l a r) f = none) ∨ ∃ x, At l f x ∧ ((x < a ∧ At (ins l a r) f x) ∨ (a ≤ x ∧ At (ins l a r) f (x + 1))) := by
  have hlen := ins_len (r := r) ha
  have three : ∀ j (hj : j < (ins l a r).length), (j < a ∧ ∃ h : j < l.length, (ins l a r)[j] = l[j]) ∨ (j = a ∧ (ins l a r)[j] = r) ∨ (a < j ∧ ∃ h : j - 1 < l.length, (ins l a r)[j] = l[j - 1]) := fun j hj => by
    rcases Nat.lt_trichotomy j a with h | h | h
    · exact .inl ⟨h, by omega, ins_lt ha h hj⟩
    · subst h
      exact .inr (.inl ⟨rfl, ins_at ha hj⟩)
    · exact .inr (.inr ⟨h, by omega, ins_gt ha h hj⟩)
  rcases best_cases l f with ⟨h0, hno⟩ | ⟨x, hx, _⟩
  · refine .inl ⟨h0, best_none fun j hj => ?_⟩
    rcases three j hj with ⟨_, hl, e⟩ | ⟨_, e⟩ | ⟨_, hl, e⟩ <;> rw [e]
    · exact hno _ _
    · exact hr
    · exact hno _ _
  · refine .inr ⟨x, hx, ?_⟩
    have hxl := hx.lt
    have worse : ∀ j (hj : j < (ins l a r).length), f (ins l a r)[j] = true → btB (ins l a r)[j] l[x] = false := fun j hj hf => by
      rcases three j hj with ⟨_, hl, e⟩ | ⟨_, e⟩ | ⟨_, hl, e⟩ <;> rw [e] at hf ⊢
      · exact hx.none _ _ hf
      · rw [hr] at hf; cases hf
      · exact hx.none _ _ hf
    by_cases hxa : x < a
    · have ex : (ins l a r)[x]'(by omega) = l[x] := ins_lt ha hxa (by omega)
      refine .inl ⟨hxa, ⟨by omega, by rw [ex]; exact hx.fits, fun j hj hf => by rw [ex]; exact worse j hj hf, fun j hj hjx hf => ?_⟩⟩
      rw [ex]
      rw [ins_lt ha (by omega) hj] at hf ⊢
      exact hx.first _ _ hjx hf
    · have ex : (ins l a r)[x + 1]'(by omega) = l[x] := ins_gt ha (by omega) (by omega)
      refine .inr ⟨by omega, ⟨by omega, by rw [ex]; exact hx.fits, fun j hj hf => by rw [ex]; exact worse j hj hf, fun j hj hjx hf => ?_⟩⟩
      rw [ex]
      rcases three j hj with ⟨h1, hl, e⟩ | ⟨_, e⟩ | ⟨h1, hl, e⟩ <;> rw [e] at hf ⊢
      · exact hx.first _ _ (by omega) hf
      · rw [hr] at hf; cases hf
      · exact hx.first _ _ (by omega) hf

/-- One more at the end. -/
theorem end_more (l : List Rl) (f : Rl → Bool) (r : Rl) :
    (bestO l f = none ∧ f r = false ∧ bestO (l ++ [r]) f = none) ∨ (bestO l f = none ∧ f r = true ∧ At (l ++ [r]) f l.length) ∨
    (∃ x, ∃ h : At l f x, f r = true ∧ btB r (l[x]'h.lt) = true ∧ At (l ++ [r]) f l.length) ∨ ∃ x, ∃ h : At l f x, (f r = false ∨ btB r (l[x]'h.lt) = false) ∧ At (l ++ [r]) f x := by
  have hlen : (l ++ [r]).length = l.length + 1 := by simp
  have e0 : ∀ h : l.length < (l ++ [r]).length, (l ++ [r])[l.length] = r := fun h => by simp
  have two : ∀ j (hj : j < (l ++ [r]).length), (∃ h : j < l.length, (l ++ [r])[j] = l[j]) ∨ (j = l.length ∧ (l ++ [r])[j] = r) := fun j hj => by
    rcases Nat.lt_or_ge j l.length with h | h
    · exact .inl ⟨h, List.getElem_append_left h⟩
    · obtain rfl : j = l.length := by omega
      exact .inr ⟨rfl, by simp⟩
  rcases best_cases l f with ⟨h0, hno⟩ | ⟨x, hx, _⟩
  · rcases hr : f r with _ | _
    · refine .inl ⟨h0, rfl, best_none fun j hj => ?_⟩
      rcases two j hj with ⟨hl, e⟩ | ⟨_, e⟩ <;> rw [e]
      · exact hno _ _
      · exact hr
    · refine .inr (.inl ⟨h0, rfl, ⟨by omega, by rw [e0]; exact hr, fun j hj hf => ?_, fun j hj hjx hf => ?_⟩⟩)
      · rw [e0]
        rcases two j hj with ⟨hl, e⟩ | ⟨_, e⟩ <;> rw [e] at hf ⊢
        · rw [hno] at hf; cases hf
        · exact bt_irrefl r
      · rcases two j hj with ⟨hl, e⟩ | ⟨h, _⟩
        · rw [e, hno] at hf; cases hf
        · omega
  · have hxl := hx.lt
    by_cases hb : f r = true ∧ btB r l[x] = true
    · refine .inr (.inr (.inl ⟨x, hx, hb.1, hb.2, ⟨by omega, by rw [e0]; exact hb.1, fun j hj hf => ?_, fun j hj hjx hf => ?_⟩⟩))
      · rw [e0]
        rcases two j hj with ⟨hl, e⟩ | ⟨_, e⟩ <;> rw [e] at hf ⊢
        · exact bt_asym (bt_over hb.2 (hx.none _ _ hf))
        · exact bt_irrefl r
      · rw [e0]
        rcases two j hj with ⟨hl, e⟩ | ⟨h, _⟩
        · rw [e] at hf ⊢
          exact bt_over hb.2 (hx.none _ _ hf)
        · omega
    · have hor : f r = false ∨ btB r l[x] = false := by
        rcases h1 : f r with _ | _
        · exact .inl rfl
        · refine .inr ?_
          rw [Bool.eq_false_iff]
          exact fun h => hb ⟨h1, h⟩
      have ex : (l ++ [r])[x]'(by omega) = l[x] := List.getElem_append_left hxl
      refine .inr (.inr (.inr ⟨x, hx, hor, ⟨by omega, by rw [ex]; exact hx.fits, fun j hj hf => ?_, fun j hj hjx hf => ?_⟩⟩))
      · rw [ex]
        rcases two j hj with ⟨hl, e⟩ | ⟨_, e⟩ <;> rw [e] at hf ⊢
        · exact hx.none _ _ hf
        · rcases hor with h | h
          · rw [h] at hf; cases hf
          · exact h
      · rw [ex]
        rcases two j hj with ⟨hl, e⟩ | ⟨h, _⟩
        · rw [e] at hf ⊢
          exact hx.first _ _ hjx hf
        · omega

/-- One that is there already, once more at the end. -/
theorem end_twice {i : Nat} (hi : i < l.length) : numO (bestO (l ++ [l[i]]) f) = numO (bestO l f) ∧ errO (bestO (l ++ [l[i]]) f) = errO (bestO l f) := by
  rcases end_more l f l[i] with ⟨h0, _, h2⟩ | ⟨h0, h1, _⟩ | ⟨x, hx, h1, h2, _⟩ | ⟨x, hx, _, h2⟩
  · rw [h0, h2]
    exact ⟨rfl, rfl⟩
  · rcases best_cases l f with ⟨_, hno⟩ | ⟨x, hx, e⟩
    · rw [hno] at h1; cases h1
    · rw [h0] at e; cases e
  · rw [hx.none _ _ h1] at h2; cases h2
  · rw [h2.num, h2.err, hx.num, hx.err]
    exact ⟨rfl, rfl⟩
end
end Go.Proofs.Ytnjacobimndnbaa
